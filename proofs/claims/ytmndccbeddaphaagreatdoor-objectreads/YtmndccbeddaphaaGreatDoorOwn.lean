/- Items that are owned, with their terms. -/
import Derived.Test.YtmndccbeddaphaaGreatDoorQuietB
import Derived.Test.YtmndccbeddaphaaGreatDoorEr1
import Derived.Laws.Cover1
import Derived.Test.YtmndccbeddaphaaGreatDoorICheck
import Derived.Test.YtmndccbeddaphaaGreatDoorNames
import Derived.Deep.QuietTactic
import Derived.BigQuiet
import Derived.WalkSmall
import Derived.WalkSpells
import Derived.Laws.CopyOwn
import Derived.Laws.AppendOwnNone
import Derived.Deep.RegionHeld3
import Derived.Laws.EntriesVeiled
/- expr.Right. -/
namespace Go.Proofs.YtmndccbeddaphaaGreatDoor
open Go.ChangeShapes Go.WideShapes Go.ChangeAt Go.RowKit
set_option linter.unusedVariables false
set_option maxRecDepth 100000
def okT (prev : Option (List UInt8)) (t : Tm) : Bool := decide (t.coef ≠ 0) && (legB (str t.name) && (match prev with | none => true | some p => nlt p t.name))
def rightF (prev : Option (List UInt8)) : List Tm → Bool
  | [] => true
  | t :: r => okT prev t && rightF (some t.name) r
def prevOf (ts : List Tm) : Nat → Option (List UInt8)
  | 0 => none
  | k + 1 => (ts[k]?).map (·.name)
def rightAt (ts : List Tm) (i : Nat) : Bool := rightF (prevOf ts i) (ts.drop i)
theorem rightAt_step (ts : List Tm) (i : Nat) (t : Tm) (ht : ts[i]? = some t) : rightAt ts i = (okT (prevOf ts i) t && rightAt ts (i + 1)) := by
  unfold rightAt
  rw [drop_at ts i t ht, rightF]
  congr 1
  simp [prevOf, ht]
theorem rightAt_end (ts : List Tm) : rightAt ts ts.length = true := by
  unfold rightAt
  rw [List.drop_length]
  rfl
theorem leq_nlt (p t : List UInt8) : (Op.bytesLess t p || t == p) = !nlt p t := by
  have h0 : Op.bytesLess t p = nlt t p := rfl
  rw [h0]
  rcases nlt_tri p t with h | h | h
  · rw [h, nlt_asymm h]
    have := nlt_ne h
    simp
    exact fun e => this e.symm
  · subst h
    rw [nlt_irrefl]
    simp
  · rw [h, nlt_asymm h]
    rfl
theorem str_size (l : List UInt8) : (str l).size = l.length := by simp [str, ByteArray.size]
set_option maxHeartbeats 2000000 in
theorem right_any (a : Option Addr) (c : Nat) (ts : List Tm) (k0 : Int) (w : World) (hT : TmLies w a ts) (hm : ts.length ≤ 9000000) (hN : ∀ t ∈ ts, t.name.length ≤ 1100000) :
    Calls Tryz.prog 103 #[linV (.slice a ts.length c) k0] w fun e w' => e = .returned (.bool (rightF none ts)) ∧ Below w.heap.size w w' := by
  obtain ⟨n0, hn0⟩ : ∃ n0, n0 = ts.length := ⟨_, rfl⟩
  obtain ⟨bv, hbv⟩ : ∃ bv, bv = rightF none ts := ⟨_, rfl⟩
  rw [← hn0, ← hbv]
  rw [← hn0] at hm
  have hnH := Hid.intro hn0
  have hstart : Hid (bv = rightAt ts 0) := hbv
  have hTH := Hid.intro hT
  have hNH := Hid.intro hN
  clear hn0 hbv hT hN
  go_enter Tryz.func103, Tryz.ntmps103
  go_wp2
  have hb0 := below_alloc w (.cells #[.slice a n0 c, .int .u32 k0] 84)
  have t0 := two_new w 84 (.slice a n0 c) (.int .u32 k0)
  have hs0 : (w.alloc (.cells #[.slice a n0 c, .int .u32 k0] 84)).heap.size = w.heap.size + 1 := by simp
  generalize w.alloc (.cells #[.slice a n0 c, .int .u32 k0] 84) = w0 at *
  go_loopw [8] (fun vi wr => ∃ i : Nat, i ≤ n0 ∧ vi = .int .i64 (i : Int) ∧ Hid (bv = rightAt ts i) ∧ Below (w.heap.size + 1) w0 wr) (fun vi _ => n0 - (intOf vi).toNat)
  case atStart => exact ⟨0, Nat.zero_le _, rfl, hstart, Below.refl _ _⟩
  case round =>
    obtain ⟨i, hi, rfl, hR, hbr⟩ := hrel
    have hszr := hbr.size
    rw [hs0] at hszr
    by_cases hlt : i < n0
    · obtain ⟨t, ht⟩ : ∃ t, ts[i]? = some t := ⟨ts[i]'(by rw [← hnH.out]; exact hlt), List.getElem?_eq_getElem _⟩
      have hmem : t ∈ ts := List.mem_of_getElem? ht
      have hsz : (str t.name).size ≤ 1100000 := by rw [str_size]; exact hNH.out t hmem
      have hstep := rightAt_step ts i t ht
      have hall : Below w.heap.size w wr := hb0.trans (hbr.mono (by omega))
      rcases hTH.out with hx | ⟨g, o, rfl, hg, hc⟩
      · rw [hx] at ht; simp at ht
      obtain ⟨q0, q1⟩ := (hc i t ht).below hall hg
      have hgr : g < wr.heap.size := Nat.lt_of_lt_of_le hg hall.size
      by_cases hz : t.coef = 0
      · have hf : bv = false := by rw [hR.out, hstep]; simp [okT, hz]
        subst hf
        have hz' : (t.coef == 0) = true := by simp [hz]
        clear hstep ht hmem hc hz
        go_wp2
        all_goals first | omega | skip
        go_quiet (fail)
        go_wp2
        all_goals first | omega | skip
        go_ret
        exact ⟨rfl, below_drewN (hall.alloc hall.size _) _⟩
      · have hz' : (t.coef == 0) = false := by simp [hz]
        have hL := Hid.intro (fun w => legal_any (str t.name) hsz w)
        cases hleg : legB (str t.name)
        · have hf : bv = false := by rw [hR.out, hstep]; simp [okT, hleg]
          subst hf
          rw [hleg] at hL
          clear hstep ht hmem hc hz hleg
          go_wp2
          all_goals first | omega | skip
          have hq := two_new wr 107 (.string (str t.name)) (.int .u32 t.coef)
          have hbq := below_alloc wr (.cells #[.string (str t.name), .int .u32 t.coef] 107)
          generalize wr.alloc (.cells #[.string (str t.name), .int .u32 t.coef] 107) = w1 at *
          have hqlt := (Array.getElem?_eq_some_iff.1 hq.heap).1
          have m0 : ∀ p : BelowOf w1, p.wd.cell? ⟨wr.heap.size, 0, none⟩ = some (.string (str t.name)) := fun p => p.cell hqlt hq.c0
          have m1 : ∀ p : BelowOf w1, p.wd.cell? ⟨wr.heap.size, 1, none⟩ = some (.int .u32 t.coef) := fun p => p.cell hqlt hq.c1
          refine wp_region_quiet_below (by kernel_rfl) (by kernel_rfl) ?_
          repeat (first | (with_reducible refine wpQuiet_skip (by with_unfolding_all rfl) ?_; simp only [Act.put, List.setIfInBounds_toArray, List.set_cons_zero, List.set_cons_succ]) | (with_reducible refine wpQuiet_step (fun K hK => ?_); go_simp; first | (with_reducible refine hK _ ?_; clear hK K) | (apply Exists.intro; refine ⟨fun _ => ?_, hK _ ?_⟩; (go_at_call 102; with_reducible refine below_calls (hL.out _)); clear hK K)))
          with_reducible refine wpQuiet_nil ?_
          intro _ hw'
          obtain ⟨pq, hw''⟩ := hw'
          subst hw''
          go_wp2
          all_goals first | omega | skip
          go_ret
          exact ⟨rfl, (hall.trans (hbq.mono hall.size)).trans (pq.h.mono (Nat.le_trans hall.size hbq.size))⟩
        · rw [hleg] at hL
          cases i with
          | zero =>
            simp only [Nat.zero_mul, Nat.add_zero] at q0 q1
            have hnext : Hid (bv = rightAt ts (0 + 1)) := by show bv = _; rw [hR.out, hstep]; simp [okT, hz, hleg, prevOf]
            clear hstep ht hmem hc hz hleg
            go_wp2
            all_goals first | omega | skip
            have hq := two_new wr 107 (.string (str t.name)) (.int .u32 t.coef)
            have hbq := below_alloc wr (.cells #[.string (str t.name), .int .u32 t.coef] 107)
            generalize wr.alloc (.cells #[.string (str t.name), .int .u32 t.coef] 107) = w1 at *
            have hqlt := (Array.getElem?_eq_some_iff.1 hq.heap).1
            have m0 : ∀ p : BelowOf w1, p.wd.cell? ⟨wr.heap.size, 0, none⟩ = some (.string (str t.name)) := fun p => p.cell hqlt hq.c0
            have m1 : ∀ p : BelowOf w1, p.wd.cell? ⟨wr.heap.size, 1, none⟩ = some (.int .u32 t.coef) := fun p => p.cell hqlt hq.c1
            refine wp_region_quiet_below (by kernel_rfl) (by kernel_rfl) ?_
            repeat (first | (with_reducible refine wpQuiet_skip (by with_unfolding_all rfl) ?_; simp only [Act.put, List.setIfInBounds_toArray, List.set_cons_zero, List.set_cons_succ]) | (with_reducible refine wpQuiet_step (fun K hK => ?_); go_simp; first | (with_reducible refine hK _ ?_; clear hK K) | (apply Exists.intro; refine ⟨fun _ => ?_, hK _ ?_⟩; (go_at_call 102; with_reducible refine below_calls (hL.out _)); clear hK K)))
            with_reducible refine wpQuiet_nil ?_
            intro _ hw'
            obtain ⟨pq, hw''⟩ := hw'
            subst hw''
            go_wp2
            all_goals first | omega | skip
            go_roundw
            case rel => exact ⟨1, by omega, by go_num, hnext, hbr.trans ((hbq.mono hszr).trans (pq.h.mono (Nat.le_trans hszr hbq.size)))⟩
            case measure => simp [intOf]; omega
          | succ k =>
            obtain ⟨u, hu⟩ : ∃ u, ts[k]? = some u := ⟨ts[k]'(by rw [← hnH.out]; omega), List.getElem?_eq_getElem _⟩
            obtain ⟨u0, u1⟩ := (hc k u hu).below hall hg
            have x0' : wr.cell? ⟨w.heap.size, 0, none⟩ = some (.slice (some ⟨g, o, none⟩) n0 c) := (t0.below hbr (by omega)).c0
            have hprev : prevOf ts (k + 1) = some u.name := by simp [prevOf, hu]
            have hwr : IntKind.i64.wrap (k : Int) = (k : Int) := by rw [IntKind.wrap_i64]; omega
            have hk1 : (0 : Int) ≤ (k : Int) := by omega
            have hk2 : (k : Int) < (n0 : Int) := by omega
            have hk3 : k < n0 := by omega
            have hcmp := leq_nlt u.name t.name
            cases hn : nlt u.name t.name
            · have hf : bv = false := by rw [hR.out, hstep]; simp [okT, hprev, hn]
              subst hf
              rw [hn] at hcmp
              have e1 : (Op.bytesLess (str t.name).toList (str u.name).toList || (str t.name).toList == (str u.name).toList) = true := by rw [str_toList, str_toList]; exact hcmp
              clear hstep ht hmem hc hz hleg hcmp hn hprev hu
              go_wp2
              all_goals first | omega | skip
              have hq := two_new wr 107 (.string (str t.name)) (.int .u32 t.coef)
              have hbq := below_alloc wr (.cells #[.string (str t.name), .int .u32 t.coef] 107)
              generalize wr.alloc (.cells #[.string (str t.name), .int .u32 t.coef] 107) = w1 at *
              have hqlt := (Array.getElem?_eq_some_iff.1 hq.heap).1
              have m0 : ∀ p : BelowOf w1, p.wd.cell? ⟨wr.heap.size, 0, none⟩ = some (.string (str t.name)) := fun p => p.cell hqlt hq.c0
              have m1 : ∀ p : BelowOf w1, p.wd.cell? ⟨wr.heap.size, 1, none⟩ = some (.int .u32 t.coef) := fun p => p.cell hqlt hq.c1
              have v0 : ∀ p : BelowOf w1, p.wd.cell? ⟨g, o + k * 2, none⟩ = some (.string (str u.name)) := fun p => p.cell (Nat.lt_of_lt_of_le hgr hbq.size) (by rw [hbq.cell hgr]; exact u0)
              have x0 : ∀ p : BelowOf w1, p.wd.cell? ⟨w.heap.size, 0, none⟩ = some (.slice (some ⟨g, o, none⟩) n0 c) := fun p => p.cell (a := ⟨w.heap.size, 0, none⟩) (Nat.lt_of_lt_of_le (show w.heap.size < wr.heap.size by omega) hbq.size) (by rw [hbq.cell (p := ⟨w.heap.size, 0, none⟩) (by show w.heap.size < wr.heap.size; omega)]; exact x0')
              refine wp_region_quiet_below (by kernel_rfl) (by kernel_rfl) ?_
              repeat (first | (with_reducible refine wpQuiet_skip (by with_unfolding_all rfl) ?_; simp only [Act.put, List.setIfInBounds_toArray, List.set_cons_zero, List.set_cons_succ]) | (with_reducible refine wpQuiet_step (fun K hK => ?_); go_simp; first | (with_reducible refine hK _ ?_; clear hK K) | (apply Exists.intro; refine ⟨fun _ => ?_, hK _ ?_⟩; (go_at_call 102; with_reducible refine below_calls (hL.out _)); clear hK K)))
              with_reducible refine wpQuiet_nil ?_
              intro _ hw'
              obtain ⟨pq, hw''⟩ := hw'
              subst hw''
              go_wp2
              all_goals first | omega | skip
              go_ret
              exact ⟨rfl, (hall.trans (hbq.mono hall.size)).trans (pq.h.mono (Nat.le_trans hall.size hbq.size))⟩
            · have hnext : Hid (bv = rightAt ts (k + 1 + 1)) := by show bv = _; rw [hR.out, hstep]; simp [okT, hz, hleg, hprev, hn]
              rw [hn] at hcmp
              have e1 : (Op.bytesLess (str t.name).toList (str u.name).toList || (str t.name).toList == (str u.name).toList) = false := by rw [str_toList, str_toList]; exact hcmp
              clear hstep ht hmem hc hz hleg hcmp hn hprev hu
              go_wp2
              all_goals first | omega | skip
              have hq := two_new wr 107 (.string (str t.name)) (.int .u32 t.coef)
              have hbq := below_alloc wr (.cells #[.string (str t.name), .int .u32 t.coef] 107)
              generalize wr.alloc (.cells #[.string (str t.name), .int .u32 t.coef] 107) = w1 at *
              have hqlt := (Array.getElem?_eq_some_iff.1 hq.heap).1
              have m0 : ∀ p : BelowOf w1, p.wd.cell? ⟨wr.heap.size, 0, none⟩ = some (.string (str t.name)) := fun p => p.cell hqlt hq.c0
              have m1 : ∀ p : BelowOf w1, p.wd.cell? ⟨wr.heap.size, 1, none⟩ = some (.int .u32 t.coef) := fun p => p.cell hqlt hq.c1
              have v0 : ∀ p : BelowOf w1, p.wd.cell? ⟨g, o + k * 2, none⟩ = some (.string (str u.name)) := fun p => p.cell (Nat.lt_of_lt_of_le hgr hbq.size) (by rw [hbq.cell hgr]; exact u0)
              have x0 : ∀ p : BelowOf w1, p.wd.cell? ⟨w.heap.size, 0, none⟩ = some (.slice (some ⟨g, o, none⟩) n0 c) := fun p => p.cell (a := ⟨w.heap.size, 0, none⟩) (Nat.lt_of_lt_of_le (show w.heap.size < wr.heap.size by omega) hbq.size) (by rw [hbq.cell (p := ⟨w.heap.size, 0, none⟩) (by show w.heap.size < wr.heap.size; omega)]; exact x0')
              refine wp_region_quiet_below (by kernel_rfl) (by kernel_rfl) ?_
              repeat (first | (with_reducible refine wpQuiet_skip (by with_unfolding_all rfl) ?_; simp only [Act.put, List.setIfInBounds_toArray, List.set_cons_zero, List.set_cons_succ]) | (with_reducible refine wpQuiet_step (fun K hK => ?_); go_simp; first | (with_reducible refine hK _ ?_; clear hK K) | (apply Exists.intro; refine ⟨fun _ => ?_, hK _ ?_⟩; (go_at_call 102; with_reducible refine below_calls (hL.out _)); clear hK K)))
              with_reducible refine wpQuiet_nil ?_
              intro _ hw'
              obtain ⟨pq, hw''⟩ := hw'
              subst hw''
              go_wp2
              all_goals first | omega | skip
              go_roundw
              case rel => exact ⟨k + 1 + 1, by omega, by go_num, hnext, hbr.trans ((hbq.mono hszr).trans (pq.h.mono (Nat.le_trans hszr hbq.size)))⟩
              case measure => simp [intOf]; omega
    · have hf : bv = true := by
        rw [hR.out, show i = ts.length by rw [← hnH.out]; omega, rightAt_end]
      subst hf
      go_wp2
      all_goals first | omega | skip
      go_ret
      exact ⟨rfl, hb0.trans (hbr.mono (by omega))⟩
end Go.Proofs.YtmndccbeddaphaaGreatDoor
/- What a line says, as a function on its tokens: the small ones. -/
namespace Go.Proofs.YtmndccbeddaphaaGreatDoor
open Go.ChangeShapes Go.WideShapes Go.ChangeAt Go.RowKit
set_option linter.unusedVariables false
set_option maxRecDepth 100000
structure Itm where
  kind : Int
  name : List UInt8
  op : Int
  a : Int
  b : Int
  m : Int
  form : Int
  e : Lin
  n : Int
def linE : Lin := ⟨[], 0⟩
def numOfB (kind n : Int) : Bool :=
  if kind = 3 then decide (n = 1 ∨ n = 2 ∨ n = 4 ∨ n = 8 ∨ n = 16 ∨ n = 32 ∨ n = 64 ∨ n = 128 ∨ n = 256)
  else if kind = 5 then decide (-128 ≤ n ∧ n ≤ 255)
  else if kind = 7 then decide (0 ≤ n ∧ n ≤ 1048576)
  else decide (n = 0)
def standsB (kind sec : Int) : Bool :=
  if kind = 1 ∨ kind = 3 then true
  else if kind = 2 ∨ kind = 4 then decide (sec ≠ 1)
  else if kind = 5 ∨ kind = 6 ∨ kind = 7 then decide (sec = 1)
  else false
theorem stands_any (k s : Int) (w : World) :
    Calls Tryz.prog 122 #[.int .i64 k, .int .i64 s] w fun e w' => e = .returned (.bool (standsB k s)) ∧ w' = w := by
  by_cases h1 : k = 1
  · subst h1; go_enter Tryz.func122, Tryz.ntmps122; go_wp2; go_ret; exact ⟨rfl, rfl⟩
  by_cases h3 : k = 3
  · subst h3; go_enter Tryz.func122, Tryz.ntmps122; go_wp2; go_ret; exact ⟨rfl, rfl⟩
  by_cases h2 : k = 2
  · subst h2; go_enter Tryz.func122, Tryz.ntmps122; go_wp2; go_ret; exact ⟨by simp [standsB]; try rfl, rfl⟩
  by_cases h4 : k = 4
  · subst h4; go_enter Tryz.func122, Tryz.ntmps122; go_wp2; go_ret; exact ⟨by simp [standsB]; try rfl, rfl⟩
  by_cases h5 : k = 5
  · subst h5; go_enter Tryz.func122, Tryz.ntmps122; go_wp2; go_ret; exact ⟨by simp [standsB]; try rfl, rfl⟩
  by_cases h6 : k = 6
  · subst h6; go_enter Tryz.func122, Tryz.ntmps122; go_wp2; go_ret; exact ⟨by simp [standsB]; try rfl, rfl⟩
  by_cases h7 : k = 7
  · subst h7; go_enter Tryz.func122, Tryz.ntmps122; go_wp2; go_ret; exact ⟨by simp [standsB]; try rfl, rfl⟩
  have hs : standsB k s = false := by simp [standsB, h1, h2, h3, h4, h5, h6, h7]
  rw [hs]
  go_enter Tryz.func122, Tryz.ntmps122
  go_wp2
  go_ret
  exact ⟨rfl, rfl⟩
theorem and_small : ∀ m : Fin 257, 1 ≤ m.val → (bits BinOp.and IntKind.i64 (m.val : Int) ((m.val : Int) - 1) == 0) = numOfB 3 (m.val : Int) := by decide +kernel
theorem isNumberOf_any (k n : Int) (w : World) (hn : -9223372036854775808 ≤ n ∧ n ≤ 9223372036854775807) :
    Calls Tryz.prog 126 #[.int .i64 k, .int .i64 n] w fun e w' => e = .returned (.bool (numOfB k n)) ∧ w' = w := by
  by_cases h3 : k = 3
  · subst h3
    by_cases h1 : 1 ≤ n
    · by_cases h2 : n ≤ 256
      · go_enter Tryz.func126, Tryz.ntmps126
        go_wp2
        go_ret
        refine ⟨?_, rfl⟩
        have hm : (n.toNat : Int) = n := by omega
        have := and_small ⟨n.toNat, by omega⟩ (by show 1 ≤ n.toNat; omega)
        simp only [hm] at this
        rw [← this]
        rfl
      · have hz : numOfB 3 n = false := by simp [numOfB]; omega
        rw [hz]
        go_enter Tryz.func126, Tryz.ntmps126
        go_wp2
        go_ret
        exact ⟨rfl, rfl⟩
    · have hz : numOfB 3 n = false := by simp [numOfB]; omega
      rw [hz]
      go_enter Tryz.func126, Tryz.ntmps126
      go_wp2
      go_ret
      exact ⟨rfl, rfl⟩
  by_cases h5 : k = 5
  · subst h5
    have hz : numOfB 5 n = (decide (-128 ≤ n) && decide (n ≤ 255)) := by simp [numOfB]
    rw [hz]
    by_cases h1 : -128 ≤ n
    · go_enter Tryz.func126, Tryz.ntmps126
      go_wp2
      go_ret
      exact ⟨by simp [h1]; try rfl, rfl⟩
    · have hf : decide (-128 ≤ n) = false := by simp [h1]
      rw [hf, Bool.false_and]
      go_enter Tryz.func126, Tryz.ntmps126
      go_wp2
      go_ret
      exact ⟨rfl, rfl⟩
  by_cases h7 : k = 7
  · subst h7
    have hz : numOfB 7 n = (decide (0 ≤ n) && decide (n ≤ 1048576)) := by simp [numOfB]
    rw [hz]
    by_cases h1 : 0 ≤ n
    · go_enter Tryz.func126, Tryz.ntmps126
      go_wp2
      go_ret
      exact ⟨by simp [h1]; try rfl, rfl⟩
    · have hf : decide (0 ≤ n) = false := by simp [h1]
      rw [hf, Bool.false_and]
      go_enter Tryz.func126, Tryz.ntmps126
      go_wp2
      go_ret
      exact ⟨rfl, rfl⟩
  have hz : numOfB k n = decide (n = 0) := by simp [numOfB, h3, h5, h7]
  rw [hz]
  go_enter Tryz.func126, Tryz.ntmps126
  go_wp2
  go_ret
  exact ⟨by simp; try rfl, rfl⟩
end Go.Proofs.YtmndccbeddaphaaGreatDoor
/- book.Same, Roomy and Intact over the program's tokens. -/
namespace Go.Proofs.YtmndccbeddaphaaGreatDoor
open Go.ChangeShapes Go.WideShapes Go.ChangeAt Go.RowKit
set_option linter.unusedVariables false
set_option maxRecDepth 100000
theorem cell_blockT {w : World} {b : Nat} {cs : Array Value} {t : TypeId} {z : _} (h : w.heap[b]? = some (.cells cs t z)) (j : Nat) : w.cell? ⟨b, j, none⟩ = cs[j]? := by
  unfold World.cell?
  rw [h]
  rfl
section
variable {P : Program}
end
end Go.Proofs.YtmndccbeddaphaaGreatDoor
/- The document's reader of tokens: refuse, is. -/
namespace Go.Proofs.YtmndccbeddaphaaGreatDoor
open Go.ChangeShapes Go.WideShapes Go.ChangeAt Go.RowKit
set_option linter.unusedVariables false
set_option maxRecDepth 100000
theorem row_set {w : World} {g : Nat} {T : TypeId} {cur : Array Value} (h : w.heap[g]? = some (.cells cur T (0, 0))) (j : Nat) (y : Value) :
    (w.setCell ⟨g, j, none⟩ y).heap[g]? = some (.cells (cur.setIfInBounds j y) T (0, 0)) ∧ w.grownBy (w.setCell ⟨g, j, none⟩ y) (some g) := by
  refine ⟨heap_setCell_same w g j _ T y h, ⟨rfl, rfl, rfl, by simp, fun k hk hne => ?_⟩⟩
  have hk' : k ≠ g := fun e => hne (by rw [e])
  rw [heap_setCell_other _ _ _ _ hk']
end Go.Proofs.YtmndccbeddaphaaGreatDoor
/- item's readOne: constants and expressions. -/
namespace Go.Proofs.YtmndccbeddaphaaGreatDoor
open Go.ChangeShapes Go.WideShapes Go.ChangeAt Go.RowKit
set_option linter.unusedVariables false
set_option maxRecDepth 100000
theorem Tab.grown {w w' : World} {b : Nat} (h : Tab w) (hg : w.grownBy w' (some b)) (hb : 3 ≤ b) : Tab w' := by
  obtain ⟨⟨t, z, h1⟩, t2, z2, h2⟩ := h
  have l0 := (Array.getElem?_eq_some_iff.1 h1).1
  have l1 := (Array.getElem?_eq_some_iff.1 h2).1
  exact ⟨⟨t, z, by rw [hg.block 0 l0 (by simp; omega)]; exact h1⟩, t2, z2, by rw [hg.block 2 l1 (by simp; omega)]; exact h2⟩
end Go.Proofs.YtmndccbeddaphaaGreatDoor
/- item's readerOf, said, Read of an operation's line. -/
namespace Go.Proofs.YtmndccbeddaphaaGreatDoor
open Go.ChangeShapes Go.WideShapes Go.ChangeAt Go.RowKit
set_option linter.unusedVariables false
set_option maxRecDepth 100000
structure ItAt (w : World) (g o : Nat) (x : Itm) (va : Option Addr) (n vc : Nat) : Prop where
  kind : w.cell? ⟨g, o, none⟩ = some (.int .i64 x.kind)
  name : w.cell? ⟨g, o + 1, none⟩ = some (.string (str x.name))
  op : w.cell? ⟨g, o + 2, none⟩ = some (.int .i64 x.op)
  a : w.cell? ⟨g, o + 3, none⟩ = some (.int .i64 x.a)
  b : w.cell? ⟨g, o + 4, none⟩ = some (.int .i64 x.b)
  m : w.cell? ⟨g, o + 5, none⟩ = some (.int .i32 x.m)
  form : w.cell? ⟨g, o + 6, none⟩ = some (.int .i64 x.form)
  terms : w.cell? ⟨g, o + 7, none⟩ = some (.slice va n vc)
  const : w.cell? ⟨g, o + 8, none⟩ = some (.int .u32 x.e.const)
  n : w.cell? ⟨g, o + 9, none⟩ = some (.int .i64 x.n)
abbrev itmCells (x : Itm) (v : Value) : Array Value := #[.int .i64 x.kind, .string (str x.name), .int .i64 x.op, .int .i64 x.a, .int .i64 x.b, .int .i32 x.m, .int .i64 x.form, v, .int .u32 x.e.const, .int .i64 x.n]
end Go.Proofs.YtmndccbeddaphaaGreatDoor
namespace Go.Proofs.YtmndccbeddaphaaGreatDoor
open Go.ChangeShapes Go.WideShapes Go.ChangeAt Go.RowKit
set_option linter.unusedVariables false
set_option maxRecDepth 100000
theorem own_keptB {w w' : World} {B : Nat} {e : TypeId} {size : Nat} {v : Value} {n : Nat} {xs : List Value} (h : w.ownsRow B e size v n xs) (hb : Below w.heap.size w w') : w'.ownsRow B e size v n xs :=
  h.kept (grown_of_below hb) (by cases v.ownBlock <;> simp)
def rowI (p : List (Itm × Value)) : List Value := p.flatMap fun q => (itmCells q.1 q.2).toList
structure ItOwn (lo : Nat) (w : World) (v : Value) (p : List (Itm × Value)) : Prop where
  row : w.ownsRow lo 86 10 v p.length (rowI p)
  each : ∀ q ∈ p, w.ownsRow lo 107 2 q.2 q.1.e.terms.length (rowT q.1.e.terms)
end Go.Proofs.YtmndccbeddaphaaGreatDoor
