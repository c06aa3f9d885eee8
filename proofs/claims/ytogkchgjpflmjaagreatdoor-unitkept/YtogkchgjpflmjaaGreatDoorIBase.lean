/- Contracts of isa's small functions. -/
import Derived.Test.YtogkchgjpflmjaaGreatDoorQuietB
import Derived.Test.YtogkchgjpflmjaaGreatDoorShelf
import Derived.Laws.Cover1
import Derived.Test.YtogkchgjpflmjaaGreatDoorNum
import Derived.Test.YtogkchgjpflmjaaGreatDoorRows
import Derived.WalkKit
import Derived.ProofKit
import Derived.OpenShut
import Derived.Below
import Derived.Handy
import Derived.Lib.LaidTab
import Derived.Stop.LaidErr
import Derived.Deep.Strs
/- expr.Right. -/
namespace Go.Proofs.YtogkchgjpflmjaaGreatDoor
open Go.ChangeShapes Go.WideShapes Go.ChangeAt Go.RowKit
set_option linter.unusedVariables false
set_option maxRecDepth 100000
def okT (prev : Option (List UInt8)) (t : Tm) : Bool := decide (t.coef ≠ 0) && (legB (str t.name) && (match prev with | none => true | some p => nlt p t.name))
def rightF (prev : Option (List UInt8)) : List Tm → Bool
  | [] => true
  | t :: r => okT prev t && rightF (some t.name) r
def prevOf (ts : List Tm) : Nat → Option (List UInt8)
  | 0 => none
  | k + 1 => (ts[k]?).map (·.name)
def rightAt (ts : List Tm) (i : Nat) : Bool := rightF (prevOf ts i) (ts.drop i)
theorem rightAt_step (ts : List Tm) (i : Nat) (t : Tm) (ht : ts[i]? = some t) : rightAt ts i = (okT (prevOf ts i) t && rightAt ts (i + 1)) := by
  unfold rightAt
  rw [drop_at ts i t ht, rightF]
  congr 1
  simp [prevOf, ht]
theorem rightAt_end (ts : List Tm) : rightAt ts ts.length = true := by
  unfold rightAt
  rw [List.drop_length]
  rfl
theorem leq_nlt (p t : List UInt8) : (Op.bytesLess t p || t == p) = !nlt p t := by
  have h0 : Op.bytesLess t p = nlt t p := rfl
  rw [h0]
  rcases nlt_tri p t with h | h | h
  · rw [h, nlt_asymm h]
    have := nlt_ne h
    simp
    exact fun e => this e.symm
  · subst h
    rw [nlt_irrefl]
    simp
  · rw [h, nlt_asymm h]
    rfl
theorem str_size (l : List UInt8) : (str l).size = l.length := by simp [str, ByteArray.size]
set_option maxHeartbeats 2000000 in
theorem right_any (a : Option Addr) (c : Nat) (ts : List Tm) (k0 : Int) (w : World) (hT : TmLies w a ts) (hm : ts.length ≤ 9000000) (hN : ∀ t ∈ ts, t.name.length ≤ 1100000) :
    Calls Tryz.prog 80 #[linV (.slice a ts.length c) k0] w fun e w' => e = .returned (.bool (rightF none ts)) ∧ Below w.heap.size w w' := by
  obtain ⟨n0, hn0⟩ : ∃ n0, n0 = ts.length := ⟨_, rfl⟩
  obtain ⟨bv, hbv⟩ : ∃ bv, bv = rightF none ts := ⟨_, rfl⟩
  rw [← hn0, ← hbv]
  rw [← hn0] at hm
  have hnH := Hid.intro hn0
  have hstart : Hid (bv = rightAt ts 0) := hbv
  have hTH := Hid.intro hT
  have hNH := Hid.intro hN
  clear hn0 hbv hT hN
  go_enter Tryz.func80, Tryz.ntmps80
  go_wp2
  have hb0 := below_alloc w (.cells #[.slice a n0 c, .int .u32 k0] 89)
  have t0 := two_new w 89 (.slice a n0 c) (.int .u32 k0)
  have hs0 : (w.alloc (.cells #[.slice a n0 c, .int .u32 k0] 89)).heap.size = w.heap.size + 1 := by simp
  generalize w.alloc (.cells #[.slice a n0 c, .int .u32 k0] 89) = w0 at *
  go_loopw [8] (fun vi wr => ∃ i : Nat, i ≤ n0 ∧ vi = .int .i64 (i : Int) ∧ Hid (bv = rightAt ts i) ∧ Below (w.heap.size + 1) w0 wr) (fun vi _ => n0 - (intOf vi).toNat)
  case atStart => exact ⟨0, Nat.zero_le _, rfl, hstart, Below.refl _ _⟩
  case round =>
    obtain ⟨i, hi, rfl, hR, hbr⟩ := hrel
    have hszr := hbr.size
    rw [hs0] at hszr
    by_cases hlt : i < n0
    · obtain ⟨t, ht⟩ : ∃ t, ts[i]? = some t := ⟨ts[i]'(by rw [← hnH.out]; exact hlt), List.getElem?_eq_getElem _⟩
      have hmem : t ∈ ts := List.mem_of_getElem? ht
      have hsz : (str t.name).size ≤ 1100000 := by rw [str_size]; exact hNH.out t hmem
      have hstep := rightAt_step ts i t ht
      have hall : Below w.heap.size w wr := hb0.trans (hbr.mono (by omega))
      rcases hTH.out with hx | ⟨g, o, rfl, hg, hc⟩
      · rw [hx] at ht; simp at ht
      obtain ⟨q0, q1⟩ := (hc i t ht).below hall hg
      have hgr : g < wr.heap.size := Nat.lt_of_lt_of_le hg hall.size
      by_cases hz : t.coef = 0
      · have hf : bv = false := by rw [hR.out, hstep]; simp [okT, hz]
        subst hf
        have hz' : (t.coef == 0) = true := by simp [hz]
        clear hstep ht hmem hc hz
        go_wp2
        all_goals first | omega | skip
        go_quiet (fail)
        go_wp2
        all_goals first | omega | skip
        go_ret
        exact ⟨rfl, below_drewN (hall.alloc hall.size _) _⟩
      · have hz' : (t.coef == 0) = false := by simp [hz]
        have hL := Hid.intro (fun w => legal_any (str t.name) hsz w)
        cases hleg : legB (str t.name)
        · have hf : bv = false := by rw [hR.out, hstep]; simp [okT, hleg]
          subst hf
          rw [hleg] at hL
          clear hstep ht hmem hc hz hleg
          go_wp2
          all_goals first | omega | skip
          have hq := two_new wr 123 (.string (str t.name)) (.int .u32 t.coef)
          have hbq := below_alloc wr (.cells #[.string (str t.name), .int .u32 t.coef] 123)
          generalize wr.alloc (.cells #[.string (str t.name), .int .u32 t.coef] 123) = w1 at *
          have hqlt := (Array.getElem?_eq_some_iff.1 hq.heap).1
          have m0 : ∀ p : BelowOf w1, p.wd.cell? ⟨wr.heap.size, 0, none⟩ = some (.string (str t.name)) := fun p => p.cell hqlt hq.c0
          have m1 : ∀ p : BelowOf w1, p.wd.cell? ⟨wr.heap.size, 1, none⟩ = some (.int .u32 t.coef) := fun p => p.cell hqlt hq.c1
          refine wp_region_quiet_below (by kernel_rfl) (by kernel_rfl) ?_
          repeat (first | (with_reducible refine wpQuiet_skip (by with_unfolding_all rfl) ?_; simp only [Act.put, List.setIfInBounds_toArray, List.set_cons_zero, List.set_cons_succ]) | (with_reducible refine wpQuiet_step (fun K hK => ?_); go_simp; first | (with_reducible refine hK _ ?_; clear hK K) | (apply Exists.intro; refine ⟨fun _ => ?_, hK _ ?_⟩; (go_at_call 68; with_reducible refine below_calls (hL.out _)); clear hK K)))
          with_reducible refine wpQuiet_nil ?_
          intro _ hw'
          obtain ⟨pq, hw''⟩ := hw'
          subst hw''
          go_wp2
          all_goals first | omega | skip
          go_ret
          exact ⟨rfl, (hall.trans (hbq.mono hall.size)).trans (pq.h.mono (Nat.le_trans hall.size hbq.size))⟩
        · rw [hleg] at hL
          cases i with
          | zero =>
            simp only [Nat.zero_mul, Nat.add_zero] at q0 q1
            have hnext : Hid (bv = rightAt ts (0 + 1)) := by show bv = _; rw [hR.out, hstep]; simp [okT, hz, hleg, prevOf]
            clear hstep ht hmem hc hz hleg
            go_wp2
            all_goals first | omega | skip
            have hq := two_new wr 123 (.string (str t.name)) (.int .u32 t.coef)
            have hbq := below_alloc wr (.cells #[.string (str t.name), .int .u32 t.coef] 123)
            generalize wr.alloc (.cells #[.string (str t.name), .int .u32 t.coef] 123) = w1 at *
            have hqlt := (Array.getElem?_eq_some_iff.1 hq.heap).1
            have m0 : ∀ p : BelowOf w1, p.wd.cell? ⟨wr.heap.size, 0, none⟩ = some (.string (str t.name)) := fun p => p.cell hqlt hq.c0
            have m1 : ∀ p : BelowOf w1, p.wd.cell? ⟨wr.heap.size, 1, none⟩ = some (.int .u32 t.coef) := fun p => p.cell hqlt hq.c1
            refine wp_region_quiet_below (by kernel_rfl) (by kernel_rfl) ?_
            repeat (first | (with_reducible refine wpQuiet_skip (by with_unfolding_all rfl) ?_; simp only [Act.put, List.setIfInBounds_toArray, List.set_cons_zero, List.set_cons_succ]) | (with_reducible refine wpQuiet_step (fun K hK => ?_); go_simp; first | (with_reducible refine hK _ ?_; clear hK K) | (apply Exists.intro; refine ⟨fun _ => ?_, hK _ ?_⟩; (go_at_call 68; with_reducible refine below_calls (hL.out _)); clear hK K)))
            with_reducible refine wpQuiet_nil ?_
            intro _ hw'
            obtain ⟨pq, hw''⟩ := hw'
            subst hw''
            go_wp2
            all_goals first | omega | skip
            go_roundw
            case rel => exact ⟨1, by omega, by go_num, hnext, hbr.trans ((hbq.mono hszr).trans (pq.h.mono (Nat.le_trans hszr hbq.size)))⟩
            case measure => simp [intOf]; omega
          | succ k =>
            obtain ⟨u, hu⟩ : ∃ u, ts[k]? = some u := ⟨ts[k]'(by rw [← hnH.out]; omega), List.getElem?_eq_getElem _⟩
            obtain ⟨u0, u1⟩ := (hc k u hu).below hall hg
            have x0' : wr.cell? ⟨w.heap.size, 0, none⟩ = some (.slice (some ⟨g, o, none⟩) n0 c) := (t0.below hbr (by omega)).c0
            have hprev : prevOf ts (k + 1) = some u.name := by simp [prevOf, hu]
            have hwr : IntKind.i64.wrap (k : Int) = (k : Int) := by rw [IntKind.wrap_i64]; omega
            have hk1 : (0 : Int) ≤ (k : Int) := by omega
            have hk2 : (k : Int) < (n0 : Int) := by omega
            have hk3 : k < n0 := by omega
            have hcmp := leq_nlt u.name t.name
            cases hn : nlt u.name t.name
            · have hf : bv = false := by rw [hR.out, hstep]; simp [okT, hprev, hn]
              subst hf
              rw [hn] at hcmp
              have e1 : (Op.bytesLess (str t.name).toList (str u.name).toList || (str t.name).toList == (str u.name).toList) = true := by rw [str_toList, str_toList]; exact hcmp
              clear hstep ht hmem hc hz hleg hcmp hn hprev hu
              go_wp2
              all_goals first | omega | skip
              have hq := two_new wr 123 (.string (str t.name)) (.int .u32 t.coef)
              have hbq := below_alloc wr (.cells #[.string (str t.name), .int .u32 t.coef] 123)
              generalize wr.alloc (.cells #[.string (str t.name), .int .u32 t.coef] 123) = w1 at *
              have hqlt := (Array.getElem?_eq_some_iff.1 hq.heap).1
              have m0 : ∀ p : BelowOf w1, p.wd.cell? ⟨wr.heap.size, 0, none⟩ = some (.string (str t.name)) := fun p => p.cell hqlt hq.c0
              have m1 : ∀ p : BelowOf w1, p.wd.cell? ⟨wr.heap.size, 1, none⟩ = some (.int .u32 t.coef) := fun p => p.cell hqlt hq.c1
              have v0 : ∀ p : BelowOf w1, p.wd.cell? ⟨g, o + k * 2, none⟩ = some (.string (str u.name)) := fun p => p.cell (Nat.lt_of_lt_of_le hgr hbq.size) (by rw [hbq.cell hgr]; exact u0)
              have x0 : ∀ p : BelowOf w1, p.wd.cell? ⟨w.heap.size, 0, none⟩ = some (.slice (some ⟨g, o, none⟩) n0 c) := fun p => p.cell (a := ⟨w.heap.size, 0, none⟩) (Nat.lt_of_lt_of_le (show w.heap.size < wr.heap.size by omega) hbq.size) (by rw [hbq.cell (p := ⟨w.heap.size, 0, none⟩) (by show w.heap.size < wr.heap.size; omega)]; exact x0')
              refine wp_region_quiet_below (by kernel_rfl) (by kernel_rfl) ?_
              repeat (first | (with_reducible refine wpQuiet_skip (by with_unfolding_all rfl) ?_; simp only [Act.put, List.setIfInBounds_toArray, List.set_cons_zero, List.set_cons_succ]) | (with_reducible refine wpQuiet_step (fun K hK => ?_); go_simp; first | (with_reducible refine hK _ ?_; clear hK K) | (apply Exists.intro; refine ⟨fun _ => ?_, hK _ ?_⟩; (go_at_call 68; with_reducible refine below_calls (hL.out _)); clear hK K)))
              with_reducible refine wpQuiet_nil ?_
              intro _ hw'
              obtain ⟨pq, hw''⟩ := hw'
              subst hw''
              go_wp2
              all_goals first | omega | skip
              go_ret
              exact ⟨rfl, (hall.trans (hbq.mono hall.size)).trans (pq.h.mono (Nat.le_trans hall.size hbq.size))⟩
            · have hnext : Hid (bv = rightAt ts (k + 1 + 1)) := by show bv = _; rw [hR.out, hstep]; simp [okT, hz, hleg, hprev, hn]
              rw [hn] at hcmp
              have e1 : (Op.bytesLess (str t.name).toList (str u.name).toList || (str t.name).toList == (str u.name).toList) = false := by rw [str_toList, str_toList]; exact hcmp
              clear hstep ht hmem hc hz hleg hcmp hn hprev hu
              go_wp2
              all_goals first | omega | skip
              have hq := two_new wr 123 (.string (str t.name)) (.int .u32 t.coef)
              have hbq := below_alloc wr (.cells #[.string (str t.name), .int .u32 t.coef] 123)
              generalize wr.alloc (.cells #[.string (str t.name), .int .u32 t.coef] 123) = w1 at *
              have hqlt := (Array.getElem?_eq_some_iff.1 hq.heap).1
              have m0 : ∀ p : BelowOf w1, p.wd.cell? ⟨wr.heap.size, 0, none⟩ = some (.string (str t.name)) := fun p => p.cell hqlt hq.c0
              have m1 : ∀ p : BelowOf w1, p.wd.cell? ⟨wr.heap.size, 1, none⟩ = some (.int .u32 t.coef) := fun p => p.cell hqlt hq.c1
              have v0 : ∀ p : BelowOf w1, p.wd.cell? ⟨g, o + k * 2, none⟩ = some (.string (str u.name)) := fun p => p.cell (Nat.lt_of_lt_of_le hgr hbq.size) (by rw [hbq.cell hgr]; exact u0)
              have x0 : ∀ p : BelowOf w1, p.wd.cell? ⟨w.heap.size, 0, none⟩ = some (.slice (some ⟨g, o, none⟩) n0 c) := fun p => p.cell (a := ⟨w.heap.size, 0, none⟩) (Nat.lt_of_lt_of_le (show w.heap.size < wr.heap.size by omega) hbq.size) (by rw [hbq.cell (p := ⟨w.heap.size, 0, none⟩) (by show w.heap.size < wr.heap.size; omega)]; exact x0')
              refine wp_region_quiet_below (by kernel_rfl) (by kernel_rfl) ?_
              repeat (first | (with_reducible refine wpQuiet_skip (by with_unfolding_all rfl) ?_; simp only [Act.put, List.setIfInBounds_toArray, List.set_cons_zero, List.set_cons_succ]) | (with_reducible refine wpQuiet_step (fun K hK => ?_); go_simp; first | (with_reducible refine hK _ ?_; clear hK K) | (apply Exists.intro; refine ⟨fun _ => ?_, hK _ ?_⟩; (go_at_call 68; with_reducible refine below_calls (hL.out _)); clear hK K)))
              with_reducible refine wpQuiet_nil ?_
              intro _ hw'
              obtain ⟨pq, hw''⟩ := hw'
              subst hw''
              go_wp2
              all_goals first | omega | skip
              go_roundw
              case rel => exact ⟨k + 1 + 1, by omega, by go_num, hnext, hbr.trans ((hbq.mono hszr).trans (pq.h.mono (Nat.le_trans hszr hbq.size)))⟩
              case measure => simp [intOf]; omega
    · have hf : bv = true := by
        rw [hR.out, show i = ts.length by rw [← hnH.out]; omega, rightAt_end]
      subst hf
      go_wp2
      all_goals first | omega | skip
      go_ret
      exact ⟨rfl, hb0.trans (hbr.mono (by omega))⟩
end Go.Proofs.YtogkchgjpflmjaaGreatDoor
/- The two tables of isa as lists; what a world holds that has them. -/
namespace Go.Proofs.YtogkchgjpflmjaaGreatDoor
open Go.ChangeShapes Go.WideShapes Go.ChangeAt Go.RowKit
set_option linter.unusedVariables false
set_option maxRecDepth 100000
abbrev istr (l : List UInt8) : ByteArray := ⟨l.toArray⟩
def opsT : List (List UInt8 × Int × Int) := [([110, 111, 112], 0, 1), ([104, 97, 108, 116], 1, 1), ([114, 101, 116], 2, 1), ([112, 114, 105, 110, 116], 3, 2), ([105, 110], 4, 2), ([112, 117, 115, 104], 5, 2), ([112, 111, 112], 6, 2), ([106, 114], 7, 2), ([110, 101, 103], 8, 2), ([110, 111, 116], 9, 2), ([122, 116, 117, 114, 110], 10, 3), ([122, 99, 111, 110, 106], 11, 3), ([109, 111, 118], 16, 4), ([97, 100, 100], 17, 4), ([115, 117, 98], 18, 4), ([109, 117, 108], 19, 4), ([100, 105, 118], 20, 4), ([97, 110, 100], 21, 4), ([111, 114], 22, 4), ([120, 111, 114], 23, 4), ([115, 104, 108], 24, 4), ([115, 104, 114], 25, 4), ([108, 116], 26, 4), ([101, 113], 27, 4), ([108, 100, 98], 28, 4), ([108, 100, 119], 29, 4), ([108, 100, 109], 30, 4), ([115, 116, 109], 31, 4), ([122, 109, 111, 118], 32, 5), ([122, 97, 100, 100], 33, 5), ([122, 115, 117, 98], 34, 5), ([122, 109, 117, 108], 35, 5), ([122, 114, 101], 36, 6), ([122, 105, 109], 37, 6), ([122, 115, 101, 116], 38, 7), ([108, 105, 115], 48, 8), ([116, 114, 97, 112], 49, 9), ([108, 105], 50, 10), ([108, 100, 112], 51, 11), ([106, 109, 112], 64, 12), ([99, 97, 108, 108], 67, 12), ([106, 122], 70, 13), ([106, 110, 122], 73, 13)]
def shT : List (Int × Int × Int × Int × Int) := [(0, 0, 0, 0, 0), (0, 0, 0, 0, 1), (7, 0, 0, 0, 2), (3, 0, 0, 0, 2), (7, 7, 0, 0, 2), (3, 3, 0, 0, 2), (7, 3, 0, 0, 2), (3, 7, 0, 7, 3), (7, 0, -128, 127, 3), (0, 0, 0, 255, 2), (7, 0, -2147483648, 2147483647, 6), (7, 0, 0, 4095, 4), (0, 0, 0, 0, 1), (7, 0, 0, 0, 2)]
def opCells (x : List UInt8 × Int × Int) : List Value := [.string (istr x.1), .int .u8 x.2.1, .int .i64 x.2.2]
def shCells (x : Int × Int × Int × Int × Int) : List Value := [.int .i64 x.1, .int .i64 x.2.1, .int .i32 x.2.2.1, .int .i32 x.2.2.2.1, .int .i64 x.2.2.2.2]
def nameAt (i : Nat) : List UInt8 := (opsT.getD i ([], 0, 0)).1
def byteAt (i : Nat) : Int := (opsT.getD i ([], 0, 0)).2.1
def shapeAt (i : Nat) : Int := (opsT.getD i ([], 0, 0)).2.2
def aMax (i : Nat) : Int := (shT.getD i (0, 0, 0, 0, 0)).1
def bMax (i : Nat) : Int := (shT.getD i (0, 0, 0, 0, 0)).2.1
def nMin (i : Nat) : Int := (shT.getD i (0, 0, 0, 0, 0)).2.2.1
def nMax (i : Nat) : Int := (shT.getD i (0, 0, 0, 0, 0)).2.2.2.1
def sizeAt (i : Nat) : Int := (shT.getD i (0, 0, 0, 0, 0)).2.2.2.2
theorem flat_at {α β : Type} (f : α → List β) (k : Nat) (hf : ∀ x, (f x).length = k) : ∀ (l : List α) (i j : Nat) (x : α), l[i]? = some x → j < k → (l.flatMap f)[i * k + j]? = (f x)[j]?
  | [], i, j, x, h, hj => by simp at h
  | y :: l, 0, j, x, h, hj => by
    simp only [List.getElem?_cons_zero, Option.some.injEq] at h
    subst h
    rw [List.flatMap_cons, Nat.zero_mul, Nat.zero_add, List.getElem?_append_left (by rw [hf]; exact hj)]
  | y :: l, i + 1, j, x, h, hj => by
    rw [List.flatMap_cons, List.getElem?_append_right (by rw [hf, Nat.succ_mul]; omega), hf, show (i + 1) * k + j - k = i * k + j by rw [Nat.succ_mul]; omega]
    exact flat_at f k hf l i j x (by simpa using h) hj
theorem cut_flat {α β : Type} (f : α → List β) (k : Nat) (hk : 0 < k) (hf : ∀ x, (f x).length = k) : ∀ (l : List α) (cs : List β), cs.length = l.length * k → (∀ i x, l[i]? = some x → (cs.drop (i * k)).take k = f x) → cs = l.flatMap f
  | [], cs, hl, _ => by
    simp at hl
    simp [hl]
  | y :: l, cs, hl, h => by
    have h0 := h 0 y rfl
    rw [Nat.zero_mul, List.drop_zero] at h0
    rw [List.flatMap_cons, ← h0, ← cut_flat f k hk hf l (cs.drop k) (by simp only [List.length_drop, hl, List.length_cons, Nat.succ_mul]; omega) (fun i x hx => by
      have := h (i + 1) x (by simpa using hx)
      rw [List.drop_drop, ← this, Nat.succ_mul, Nat.add_comm])]
    exact (List.take_append_drop k cs).symm
def Tab (w : World) : Prop := (∃ t z, w.heap[1]? = some (.cells (opsT.flatMap opCells).toArray t z)) ∧ ∃ t z, w.heap[3]? = some (.cells (shT.flatMap shCells).toArray t z)
theorem Tab.size {w : World} (h : Tab w) : 4 ≤ w.heap.size := by
  obtain ⟨_, _, _, h⟩ := h
  exact (Array.getElem?_eq_some_iff.1 h).1
theorem Tab.below {w w' : World} {B : Nat} (h : Tab w) (hb : Below B w w') (hB : 4 ≤ B) : Tab w' := by
  obtain ⟨⟨t, z, h0⟩, t', z', h1⟩ := h
  exact ⟨⟨t, z, by rw [hb.block 1 (by omega)]; exact h0⟩, t', z', by rw [hb.block 3 (by omega)]; exact h1⟩
theorem opsT_at (i : Nat) (hi : i < 43) : opsT[i]? = some (nameAt i, byteAt i, shapeAt i) := by
  have h : opsT[i]? = some opsT[i] := List.getElem?_eq_getElem _
  rw [h, nameAt, byteAt, shapeAt, List.getD_eq_getElem?_getD, h]
  rfl
theorem shT_at (i : Nat) (hi : i < 14) : shT[i]? = some (aMax i, bMax i, nMin i, nMax i, sizeAt i) := by
  have h : shT[i]? = some shT[i] := List.getElem?_eq_getElem _
  rw [h, aMax, bMax, nMin, nMax, sizeAt, List.getD_eq_getElem?_getD, h]
  rfl
theorem cell_block {w : World} {b : Nat} {cs : Array Value} {t : TypeId} {z : _} (h : w.heap[b]? = some (.cells cs t z)) (j : Nat) : w.cell? ⟨b, j, none⟩ = cs[j]? := by
  unfold World.cell?
  rw [h]
  rfl
theorem Tab.op {w : World} (h : Tab w) (i : Nat) (hi : i < 43) : w.cell? ⟨1, i * 3, none⟩ = some (.string (istr (nameAt i))) ∧ w.cell? ⟨1, i * 3 + 1, none⟩ = some (.int .u8 (byteAt i)) ∧ w.cell? ⟨1, i * 3 + 2, none⟩ = some (.int .i64 (shapeAt i)) := by
  obtain ⟨⟨t, z, h⟩, _⟩ := h
  have hf := flat_at opCells 3 (fun _ => rfl) opsT i
  have ho := opsT_at i hi
  rw [cell_block h, cell_block h, cell_block h, List.getElem?_toArray, List.getElem?_toArray, List.getElem?_toArray]
  refine ⟨?_, ?_, ?_⟩
  · exact (hf 0 _ ho (by omega)).trans rfl
  · exact (hf 1 _ ho (by omega)).trans rfl
  · exact (hf 2 _ ho (by omega)).trans rfl
theorem Tab.sh {w : World} (h : Tab w) (i : Nat) (hi : i < 14) : w.cell? ⟨3, i * 5, none⟩ = some (.int .i64 (aMax i)) ∧ w.cell? ⟨3, i * 5 + 1, none⟩ = some (.int .i64 (bMax i)) ∧ w.cell? ⟨3, i * 5 + 2, none⟩ = some (.int .i32 (nMin i)) ∧ w.cell? ⟨3, i * 5 + 3, none⟩ = some (.int .i32 (nMax i)) ∧ w.cell? ⟨3, i * 5 + 4, none⟩ = some (.int .i64 (sizeAt i)) := by
  obtain ⟨_, t, z, h⟩ := h
  have hf := flat_at shCells 5 (fun _ => rfl) shT i
  have ho := shT_at i hi
  rw [cell_block h, cell_block h, cell_block h, cell_block h, cell_block h, List.getElem?_toArray, List.getElem?_toArray, List.getElem?_toArray, List.getElem?_toArray, List.getElem?_toArray]
  refine ⟨?_, ?_, ?_, ?_, ?_⟩
  · exact (hf 0 _ ho (by omega)).trans rfl
  · exact (hf 1 _ ho (by omega)).trans rfl
  · exact (hf 2 _ ho (by omega)).trans rfl
  · exact (hf 3 _ ho (by omega)).trans rfl
  · exact (hf 4 _ ho (by omega)).trans rfl
theorem shape_range (i : Nat) (hi : i < 43) : 1 ≤ shapeAt i ∧ shapeAt i ≤ 13 := by
  have : ∀ j : Fin 43, 1 ≤ shapeAt j.1 ∧ shapeAt j.1 ≤ 13 := by decide +kernel
  exact this ⟨i, hi⟩
theorem gOps : Tryz.prog.globalNamed "spandrel/isa.ops" = some 1 := by kernel_rfl
theorem gSh : Tryz.prog.globalNamed "spandrel/isa.shapes" = some 3 := by kernel_rfl
theorem gOpsT : (Tryz.prog.globals[1]?).map (·.type) = some 215 := by kernel_rfl
theorem gShT : (Tryz.prog.globals[3]?).map (·.type) = some 290 := by kernel_rfl
theorem cells27 : Tryz.prog.cellsOf 166 = 3 := by kernel_rfl
theorem cells58 : Tryz.prog.cellsOf 289 = 5 := by kernel_rfl
theorem cells55 : Tryz.prog.cellsOf 215 = 129 := by kernel_rfl
theorem cells59 : Tryz.prog.cellsOf 290 = 70 := by kernel_rfl
theorem icells9 : Tryz.prog.cellsOf 9 = 1 := by kernel_rfl
theorem cells5 : Tryz.prog.cellsOf 5 = 1 := by kernel_rfl
theorem cells3 : Tryz.prog.cellsOf 3 = 1 := by kernel_rfl
theorem cells21 : Tryz.prog.cellsOf 21 = 1 := by kernel_rfl
def opData (x : List UInt8 × Int × Int) : DataW Unit := .agg [.lit (.string x.1), .lit (.int .u8 x.2.1), .lit (.int .i64 x.2.2)]
def shData (x : Int × Int × Int × Int × Int) : DataW Unit := .agg [.lit (.int .i64 x.1), .lit (.int .i64 x.2.1), .lit (.int .i32 x.2.2.1), .lit (.int .i32 x.2.2.2.1), .lit (.int .i64 x.2.2.2.2)]
theorem laid_ops : (Rows.laid_spandrel_isa_ops : DataW Unit) = .agg (opsT.map opData) := rfl
theorem laid_sh : (Rows.laid_spandrel_isa_shapes : DataW Unit) = .agg (shT.map shData) := rfl
section
variable {H : Type} {enc : TypeId × Value → H} {P : Program} {w : World} {base : Nat} {spare : Nat → Bool} {held : Bool}
theorem trod_struct5 {t : TypeId} {f0 f1 f2 f3 f4 : Field} {fuel : Nat} {cs : List Value} {x : DataW H × List MemPlace} (ht : P.underlying t = some (.struct #[f0, f1, f2, f3, f4])) (h : DataW.trod enc P w base spare held fuel t cs = some x) :
    ∃ y0 y1 y2 y3 y4 n, x = (.agg [y0.1, y1.1, y2.1, y3.1, y4.1], y0.2 ++ (y1.2 ++ (y2.2 ++ (y3.2 ++ y4.2)))) ∧ cs.length = P.cellsOf t ∧ DataW.trod enc P w base spare held n f0.type ((cs.drop f0.offset).take (P.cellsOf f0.type)) = some y0 ∧
      DataW.trod enc P w base spare held n f1.type ((cs.drop f1.offset).take (P.cellsOf f1.type)) = some y1 ∧ DataW.trod enc P w base spare held n f2.type ((cs.drop f2.offset).take (P.cellsOf f2.type)) = some y2 ∧
      DataW.trod enc P w base spare held n f3.type ((cs.drop f3.offset).take (P.cellsOf f3.type)) = some y3 ∧ DataW.trod enc P w base spare held n f4.type ((cs.drop f4.offset).take (P.cellsOf f4.type)) = some y4 := by
  obtain ⟨xs, n, _, rfl, hl, hlen, hf⟩ := DataW.trod_struct ht h
  match xs, hlen with
  | [y0, y1, y2, y3, y4], _ => exact ⟨y0, y1, y2, y3, y4, n, by simp, hl, by simpa using hf 0 f0 rfl, by simpa using hf 1 f1 rfl, by simpa using hf 2 f2 rfl, by simpa using hf 3 f3 rfl, by simpa using hf 4 f4 rfl⟩
end
theorem list3 {α : Type} {l : List α} (h : l.length = 3) : ∃ a b c, l = [a, b, c] := by
  match l, h with
  | [a, b, c], _ => exact ⟨a, b, c, rfl⟩
theorem list5 {α : Type} {l : List α} (h : l.length = 5) : ∃ a b c d e, l = [a, b, c, d, e] := by
  match l, h with
  | [a, b, c, d, e], _ => exact ⟨a, b, c, d, e, rfl⟩
theorem op_cells {w : World} {fuel : Nat} {cs : List Value} {p : List MemPlace} {x : List UInt8 × Int × Int} (h : DataW.trod (fun _ => ()) Tryz.prog w 0 (fun _ => true) false fuel 166 cs = some (opData x, p)) : cs = opCells x := by
  obtain ⟨y0, y1, y2, n, he, hl, t0, t1, t2⟩ := Deep.trod_struct3 Tryz.underlying166 h
  rw [cells27] at hl
  obtain ⟨c0, c1, c2, rfl⟩ := list3 hl
  simp only [icells9, cells5, cells3, List.drop, List.take] at t0 t1 t2
  obtain ⟨s, e0, e1, _⟩ := DataW.trod_string Tryz.underlying9 t0
  obtain ⟨z, e2, e3, _⟩ := DataW.trod_int Tryz.underlying5 t1
  obtain ⟨z', e4, e5, _⟩ := DataW.trod_int Tryz.underlying3 t2
  subst e1 e3 e5
  simp only [opData, Prod.mk.injEq, DataW.agg.injEq, List.cons.injEq, DataW.lit.injEq, Lit.string.injEq, Lit.int.injEq, and_true, true_and] at he
  simp only [List.cons.injEq, and_true] at e0 e2 e4
  subst e0 e2 e4
  obtain ⟨⟨h0, h1, h2⟩, _⟩ := he
  rw [opCells, h0, h1, h2]
theorem sh_cells {w : World} {fuel : Nat} {cs : List Value} {p : List MemPlace} {x : Int × Int × Int × Int × Int} (h : DataW.trod (fun _ => ()) Tryz.prog w 0 (fun _ => true) false fuel 289 cs = some (shData x, p)) : cs = shCells x := by
  obtain ⟨y0, y1, y2, y3, y4, n, he, hl, t0, t1, t2, t3, t4⟩ := trod_struct5 Tryz.underlying289 h
  rw [cells58] at hl
  obtain ⟨c0, c1, c2, c3, c4, rfl⟩ := list5 hl
  simp only [cells3, cells21, List.drop, List.take] at t0 t1 t2 t3 t4
  obtain ⟨z0, e0, e1, _⟩ := DataW.trod_int Tryz.underlying3 t0
  obtain ⟨z1, e2, e3, _⟩ := DataW.trod_int Tryz.underlying3 t1
  obtain ⟨z2, e4, e5, _⟩ := DataW.trod_int Tryz.underlying21 t2
  obtain ⟨z3, e6, e7, _⟩ := DataW.trod_int Tryz.underlying21 t3
  obtain ⟨z4, e8, e9, _⟩ := DataW.trod_int Tryz.underlying3 t4
  subst e1 e3 e5 e7 e9
  simp only [shData, Prod.mk.injEq, DataW.agg.injEq, List.cons.injEq, DataW.lit.injEq, Lit.int.injEq, and_true, true_and] at he
  simp only [List.cons.injEq, and_true] at e0 e2 e4 e6 e8
  subst e0 e2 e4 e6 e8
  obtain ⟨⟨h0, h1, h2, h3, h4⟩, _⟩ := he
  rw [shCells, h0, h1, h2, h3, h4]
theorem var_block {w : World} {n : String} {g : Nat} {cs : Array Value} (hg : Tryz.prog.globalNamed n = some g) (h : w.var? Tryz.prog n = some cs) : ∃ t z, w.heap[g]? = some (.cells cs t z) := by
  unfold World.var? at h
  rw [hg] at h
  simp only [Option.bind_some] at h
  split at h
  · rename_i cs' t z hb
    cases h
    exact ⟨t, z, hb⟩
  · cases h
theorem tab_of_laid {W : World} (h : laidMet Tryz.prog [("math/bits.deBruijn32tab", Rows.laid_math_bits_deBruijn32tab), ("math/bits.deBruijn64tab", Rows.laid_math_bits_deBruijn64tab), ("internal/strconv.uint64pow10", Rows.laid_internal_strconv_uint64pow10), ("spandrel/isa.ops", Rows.laid_spandrel_isa_ops), ("spandrel/isa.shapes", Rows.laid_spandrel_isa_shapes)] W) : Tab W := by
  obtain ⟨ps, ⟨_, _, _, _, _, _, _, _, _, _, ⟨_, _, _, _, _, _, _, _, _, _, ⟨_, _, _, _, _, _, _, _, _, _, ⟨g, t, cs, fuel, p, q, hg, ht, hv, hd, ⟨g', t', cs', fuel', p', q', hg', ht', hv', hd', _⟩, _⟩, _⟩, _⟩, _⟩, _⟩ := h
  obtain rfl := Option.some.inj (gOps.symm.trans hg)
  obtain rfl := Option.some.inj (gSh.symm.trans hg')
  obtain rfl := Option.some.inj (gOpsT.symm.trans ht)
  obtain rfl := Option.some.inj (gShT.symm.trans ht')
  rw [laid_ops] at hd
  rw [laid_sh] at hd'
  constructor
  · obtain ⟨xs, m, _, hx, hl, hn, hall⟩ := DataW.trod_array Tryz.underlying215 hd
    have hxs : xs.map (·.1) = opsT.map opData := by
      have := congrArg Prod.fst hx
      simpa using this.symm
    have : cs.toList = opsT.flatMap opCells := cut_flat opCells 3 (by omega) (fun _ => rfl) opsT cs.toList (by rw [hl, cells55]; rfl) fun i x hi => by
      have hi43 : i < 43 := (List.getElem?_eq_some_iff.1 hi).1
      have h1 := hall i hi43
      rw [cells27] at h1
      have h2 : (xs.map (·.1))[i]? = some (opData x) := by rw [hxs, List.getElem?_map, hi]; rfl
      rw [List.getElem?_map, Option.map_eq_some_iff] at h2
      obtain ⟨y, hy, hy2⟩ := h2
      rw [hy] at h1
      obtain ⟨y1, y2⟩ := y
      simp only at hy2
      subst hy2
      exact op_cells h1
    obtain ⟨t, z, hb⟩ := var_block hg hv
    exact ⟨t, z, by rw [hb, ← this]⟩
  · obtain ⟨xs, m, _, hx, hl, hn, hall⟩ := DataW.trod_array Tryz.underlying290 hd'
    have hxs : xs.map (·.1) = shT.map shData := by
      have := congrArg Prod.fst hx
      simpa using this.symm
    have : cs'.toList = shT.flatMap shCells := cut_flat shCells 5 (by omega) (fun _ => rfl) shT cs'.toList (by rw [hl, cells59]; rfl) fun i x hi => by
      have hi43 : i < 14 := (List.getElem?_eq_some_iff.1 hi).1
      have h1 := hall i hi43
      rw [cells58] at h1
      have h2 : (xs.map (·.1))[i]? = some (shData x) := by rw [hxs, List.getElem?_map, hi]; rfl
      rw [List.getElem?_map, Option.map_eq_some_iff] at h2
      obtain ⟨y, hy, hy2⟩ := h2
      rw [hy] at h1
      obtain ⟨y1, y2⟩ := y
      simp only at hy2
      subst hy2
      exact sh_cells h1
    obtain ⟨t, z, hb⟩ := var_block hg' hv'
    exact ⟨t, z, by rw [hb, ← this]⟩
end Go.Proofs.YtogkchgjpflmjaaGreatDoor
namespace Go.Proofs.YtogkchgjpflmjaaGreatDoor
open Go.ChangeShapes Go.WideShapes Go.ChangeAt Go.RowKit
set_option linter.unusedVariables false
set_option maxRecDepth 100000
abbrev instV (op a b n f : Int) : Value := .agg #[.int .i64 op, .int .i64 a, .int .i64 b, .int .i32 n, .int .i64 f]
abbrev opV (s : List UInt8) (b h : Int) : Value := .agg #[.string (istr s), .int .u8 b, .int .i64 h]
abbrev limV (a b l m z : Int) : Value := .agg #[.int .i64 a, .int .i64 b, .int .i32 l, .int .i32 m, .int .i64 z]
theorem ibelow_alloc (w : World) (o : Obj) : Below w.heap.size w (w.alloc o) := (Below.refl _ w).alloc (Nat.le_refl _) o
def spansB (s : Int) : Bool := s == 12 || s == 13
theorem spans_any (s : Int) (w : World) :
    Calls Tryz.prog 96 #[.int .i64 s] w fun e w' => e = .returned (.bool (spansB s)) ∧ w' = w := by
  by_cases h1 : s = 12
  · subst h1
    go_enter Tryz.func96, Tryz.ntmps96
    go_wp2
    go_ret
    exact ⟨rfl, rfl⟩
  · have e1 : (s == 12) = false := by simpa using h1
    have hs : spansB s = (s == 13) := by simp [spansB, e1]
    rw [hs]
    go_enter Tryz.func96, Tryz.ntmps96
    go_wp2
    go_ret
    exact ⟨rfl, rfl⟩
def fitsB (n m : Int) : Bool := if m = 1 then decide (-128 ≤ n ∧ n ≤ 127) else if m = 2 then decide (-32768 ≤ n ∧ n ≤ 32767) else if m = 4 then true else false
theorem i8wrap (n : Int) : IntKind.i8.wrap n = (n + 128) % 256 - 128 := by
  simp only [IntKind.wrap, IntKind.bits, IntKind.signed]
  simp
  split <;> omega
theorem i16wrap (n : Int) : IntKind.i16.wrap n = (n + 32768) % 65536 - 32768 := by
  simp only [IntKind.wrap, IntKind.bits, IntKind.signed]
  simp
  split <;> omega
theorem reaches_any (n m : Int) (w : World) (h : -2147483648 ≤ n ∧ n ≤ 2147483647) :
    Calls Tryz.prog 182 #[.int .i32 n, .int .i64 m] w fun e w' => e = .returned (.bool (fitsB n m)) ∧ w' = w := by
  by_cases h1 : m = 1
  · subst h1
    have hs : fitsB n 1 = (n == wrap32 (IntKind.i8.wrap n)) := by
      rw [Bool.eq_iff_iff]
      simp [fitsB, wrap32, i8wrap]
      omega
    rw [hs]
    go_enter Tryz.func182, Tryz.ntmps182
    go_wp2
    go_ret
    exact ⟨rfl, rfl⟩
  · have e1 : (m == 1) = false := by simpa using h1
    by_cases h2 : m = 2
    · subst h2
      have hs : fitsB n 2 = (n == wrap32 (IntKind.i16.wrap n)) := by
        rw [Bool.eq_iff_iff]
        simp [fitsB, wrap32, i16wrap]
        omega
      rw [hs]
      go_enter Tryz.func182, Tryz.ntmps182
      go_wp2
      go_ret
      exact ⟨rfl, rfl⟩
    · have e2 : (m == 2) = false := by simpa using h2
      have hs : fitsB n m = (m == 4) := by
        simp only [fitsB, h1, h2, if_false]
        by_cases h4 : m = 4 <;> simp [h4]
      rw [hs]
      go_enter Tryz.func182, Tryz.ntmps182
      go_wp2
      go_ret
      exact ⟨rfl, rfl⟩
theorem inEnds_any (n a b l m z : Int) (w : World) :
    Calls Tryz.prog 181 #[.int .i32 n, limV a b l m z] w fun e w' => e = .returned (.bool (decide (l ≤ n) && decide (n ≤ m))) ∧ Below w.heap.size w w' := by
  by_cases hl : l ≤ n
  · go_enter Tryz.func181, Tryz.ntmps181
    go_wp2
    go_ret
    exact ⟨by simp [hl], ibelow_alloc _ _⟩
  · have hd : decide (l ≤ n) = false := decide_eq_false hl
    rw [hd]
    go_enter Tryz.func181, Tryz.ntmps181
    go_wp2
    go_ret
    exact ⟨rfl, ibelow_alloc _ _⟩
def atV (op : Int) : Value := if 1 ≤ op ∧ op ≤ 43 then .tuple #[opV (nameAt (op - 1).toNat) (byteAt (op - 1).toNat) (shapeAt (op - 1).toNat), .bool true] else .tuple #[opV [] 0 0, .bool false]
theorem Tab.alloc {w : World} (h : Tab w) (o : Obj) : Tab (w.alloc o) := h.below (ibelow_alloc w o) h.size
theorem at_any (op : Int) (w : World) (hT : Tab w) :
    Calls Tryz.prog 95 #[.int .i64 op] w fun e w' => e = .returned (atV op) ∧ Below w.heap.size w w' := by
  by_cases h1 : op < 1
  · have hr : atV op = .tuple #[opV [] 0 0, .bool false] := by rw [atV, if_neg (by omega)]
    rw [hr]
    go_enter Tryz.func95, Tryz.ntmps95
    go_wp2
    go_returns
    exact ⟨rfl, ibelow_alloc _ _⟩
  · by_cases h2 : op > 43
    · have hr : atV op = .tuple #[opV [] 0 0, .bool false] := by rw [atV, if_neg (by omega)]
      rw [hr]
      go_enter Tryz.func95, Tryz.ntmps95
      go_wp2
      go_returns
      exact ⟨rfl, ibelow_alloc _ _⟩
    · obtain ⟨i, rfl⟩ : ∃ i : Nat, op = (i : Int) + 1 := ⟨(op - 1).toNat, by omega⟩
      have hr : atV ((i : Int) + 1) = .tuple #[opV (nameAt i) (byteAt i) (shapeAt i), .bool true] := by rw [atV, if_pos (by omega), show ((i : Int) + 1 - 1).toNat = i by omega]
      rw [hr]
      have q0 := fun o => ((hT.alloc o).op i (by omega)).1
      have q1 := fun o => ((hT.alloc o).op i (by omega)).2.1
      have q2 := fun o => ((hT.alloc o).op i (by omega)).2.2
      have hsz := hT.size
      go_enter Tryz.func95, Tryz.ntmps95
      go_wp2
      all_goals first | omega | skip
      go_returns
      exact ⟨rfl, ibelow_alloc _ _⟩
end Go.Proofs.YtogkchgjpflmjaaGreatDoor
