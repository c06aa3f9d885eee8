/- A region that draws its order, whose operations only read, and whose callees leave what was there as it was: walked once. -/
import Derived.Test.YtmndccbeddaphaaGreatDoorICheck
import Derived.Test.YtmndccbeddaphaaGreatDoorEr1
import Derived.Shelf.SlGeneric
import Derived.Shelf.SlSortCmp.WholeK
import Derived.Shelf.Slices.Turned
import Derived.Test.YtmndccbeddaphaaGreatDoorProg
import Derived.Shelf.SlSortCmp.NoneTotal
import Derived.Deep.QuietTactic
import Derived.BigQuiet
import Derived.WalkSmall
import Derived.WalkSpells
/- isa.Check and Len. -/
namespace Go.Proofs.YtmndccbeddaphaaGreatDoor
open Go.ChangeShapes Go.WideShapes Go.ChangeAt Go.RowKit
set_option linter.unusedVariables false
set_option maxRecDepth 100000
structure InstAt (w : World) (g : Nat) (op a b n f : Int) : Prop where
  o : w.cell? ⟨g, 0, none⟩ = some (.int .i64 op)
  a : w.cell? ⟨g, 1, none⟩ = some (.int .i64 a)
  b : w.cell? ⟨g, 2, none⟩ = some (.int .i64 b)
  n : w.cell? ⟨g, 3, none⟩ = some (.int .i32 n)
  f : w.cell? ⟨g, 4, none⟩ = some (.int .i64 f)
  lt : g < w.heap.size
theorem InstAt.below {w w' : World} {g B : Nat} {op a b n f : Int} (h : InstAt w g op a b n f) (hb : Below B w w') (hB : g < B) : InstAt w' g op a b n f :=
  ⟨(hb.cell (p := ⟨g, 0, none⟩) hB).trans h.o, (hb.cell (p := ⟨g, 1, none⟩) hB).trans h.a, (hb.cell (p := ⟨g, 2, none⟩) hB).trans h.b, (hb.cell (p := ⟨g, 3, none⟩) hB).trans h.n, (hb.cell (p := ⟨g, 4, none⟩) hB).trans h.f, Nat.lt_of_lt_of_le h.lt hb.size⟩
theorem InstAt.alloc {w : World} {g : Nat} {op a b n f : Int} (h : InstAt w g op a b n f) (o : Obj) : InstAt (w.alloc o) g op a b n f := h.below (ibelow_alloc w o) h.lt
theorem inst_new (w : World) (op a b n f : Int) : InstAt (w.alloc (.cells #[.int .i64 op, .int .i64 a, .int .i64 b, .int .i32 n, .int .i64 f] 81)) w.heap.size op a b n f :=
  ⟨inst_cell w op a b n f 0, inst_cell w op a b n f 1, inst_cell w op a b n f 2, inst_cell w op a b n f 3, inst_cell w op a b n f 4, by simp⟩
theorem op_new (w : World) (s : List UInt8) (b h : Int) : (w.alloc (.cells #[.string (istr s), .int .u8 b, .int .i64 h] 221)).cell? ⟨w.heap.size, 2, none⟩ = some (.int .i64 h) := (cell_block (heap_alloc_new w _) 2).trans rfl
def checkN (op a b n f : Int) : Int := if ¬ (1 ≤ op ∧ op ≤ 43) then 11 else if regB a b n (shapeN op).toNat = false then 12 else if numB n f (shapeN op).toNat = false then 13 else 0
theorem shape_nat (op : Int) : ∃ s : Nat, shapeN op = (s : Int) ∧ s < 14 ∧ (shapeN op).toNat = s := by
  have h : 0 ≤ shapeN op ∧ shapeN op ≤ 13 := by
    by_cases h : 1 ≤ op ∧ op ≤ 43
    · have := shapeN_some h
      omega
    · rw [shapeN, if_neg h]
      omega
  exact ⟨(shapeN op).toNat, by omega, by omega, rfl⟩
theorem check_bel {w w0 w1 w2 w3 : World} {o : Obj} (h0 : Below w.heap.size w w0) (h1 : Below w0.heap.size w0 w1) (h2 : Below (w1.alloc o).heap.size (w1.alloc o) w2) (h3 : Below w2.heap.size w2 w3) : Below w.heap.size w w3 := by
  have s0 := h0.size
  have s1 := h1.size
  have s2 := h2.size
  simp at s2
  exact (((h0.trans (h1.mono s0)).alloc (by omega) o).trans (h2.mono (by simp; omega))).trans (h3.mono (by omega))
set_option maxHeartbeats 1000000 in
theorem check_any (op a b n f : Int) (w : World) (hT : Tab w) (hn : -2147483648 ≤ n ∧ n ≤ 2147483647) :
    Calls Tryz.prog 147 #[instV op a b n f] w fun e w' => e = .returned (.int .i64 (checkN op a b n f)) ∧ Below w.heap.size w w' := by
  obtain ⟨s, hs, hs14, hsn⟩ := shape_nat op
  have hI := inst_new w op a b n f
  have hb0 := ibelow_alloc w (.cells #[.int .i64 op, .int .i64 a, .int .i64 b, .int .i32 n, .int .i64 f] 81)
  have hT0 := hT.alloc (.cells #[.int .i64 op, .int .i64 a, .int .i64 b, .int .i32 n, .int .i64 f] 81)
  obtain ⟨R, hR⟩ : ∃ R, R = checkN op a b n f := ⟨_, rfl⟩
  rw [← hR]
  unfold checkN at hR
  rw [hsn] at hR
  by_cases hop : 1 ≤ op ∧ op ≤ 43
  · rw [if_neg (by simpa using hop)] at hR
    have hd : decide (1 ≤ op ∧ op ≤ 43) = true := decide_eq_true hop
    cases hr : regB a b n s with
    | false =>
      rw [if_pos hr] at hR
      have hRH := Hid.intro hR
      have hIH := Hid.intro hI
      have hTH := Hid.intro hT0
      have hbH := Hid.intro hb0
      have hdH := Hid.intro hd
      have hsH := Hid.intro hs
      have hrH := Hid.intro hr
      clear hR hI hT0 hb0 hd hop hT hs hsn hr
      go_enter Tryz.func147, Tryz.ntmps147
      go_wp2_with (first | (go_at_call 170; refine (at_parts _ _ hTH.out).mono ?_; rintro e w1 ⟨⟨nm1, by1, rfl⟩, hb1⟩; rw [hdH.out, hsH.out]; have hI1 := Hid.intro (hIH.out.below hb1 hIH.out.lt); have hT1 := Hid.intro (hTH.out.below hb1 hTH.out.size); have i0 := fun o => (hI1.out.alloc o).o; have i1 := fun o => (hI1.out.alloc o).a; have i2 := fun o => (hI1.out.alloc o).b; have i3 := fun o => (hI1.out.alloc o).n; have i4 := fun o => (hI1.out.alloc o).f; replace hb1 := Hid.intro hb1) | (go_at_call 176; refine (hasRegisters_any _ _ _ _ _ s hs14 _ (hT1.out.alloc _)).mono ?_; rintro e w2 ⟨rfl, hb2⟩; rw [hrH.out]; have hI2 := Hid.intro ((hI1.out.alloc _).below hb2 (hI1.out.alloc _).lt); obtain ⟨j0, j1, j2, j3, j4, _⟩ := hI2.out; have k2 := (hb2.cell (p := ⟨w1.heap.size, 2, none⟩) (by simp)).trans (op_new w1 nm1 by1 s); have hT2 := Hid.intro ((hT1.out.alloc _).below hb2 (hT1.out.alloc _).size); replace hb2 := Hid.intro hb2))
      go_ret
      rw [hRH.out]
      exact ⟨rfl, ((hbH.out.trans (hb1.out.mono hbH.out.size)).alloc (Nat.le_trans hbH.out.size hb1.out.size) _).trans (hb2.out.mono (by have := hbH.out.size; have := hb1.out.size; simp at *; omega))⟩
    | true =>
      rw [if_neg (by simp [hr])] at hR
      cases hm : numB n f s with
      | false =>
        rw [if_pos hm] at hR
        have hRH := Hid.intro hR
        have hIH := Hid.intro hI
        have hTH := Hid.intro hT0
        have hbH := Hid.intro hb0
        have hdH := Hid.intro hd
        have hsH := Hid.intro hs
        have hrH := Hid.intro hr
        have hmH := Hid.intro hm
        clear hR hI hT0 hb0 hd hop hT hs hsn hr hm
        go_enter Tryz.func147, Tryz.ntmps147
        go_wp2_with (first | (go_at_call 170; refine (at_parts _ _ hTH.out).mono ?_; rintro e w1 ⟨⟨nm1, by1, rfl⟩, hb1⟩; rw [hdH.out, hsH.out]; have hI1 := Hid.intro (hIH.out.below hb1 hIH.out.lt); have hT1 := Hid.intro (hTH.out.below hb1 hTH.out.size); have i0 := fun o => (hI1.out.alloc o).o; have i1 := fun o => (hI1.out.alloc o).a; have i2 := fun o => (hI1.out.alloc o).b; have i3 := fun o => (hI1.out.alloc o).n; have i4 := fun o => (hI1.out.alloc o).f; replace hb1 := Hid.intro hb1) | (go_at_call 176; refine (hasRegisters_any _ _ _ _ _ s hs14 _ (hT1.out.alloc _)).mono ?_; rintro e w2 ⟨rfl, hb2⟩; rw [hrH.out]; have hI2 := Hid.intro ((hI1.out.alloc _).below hb2 (hI1.out.alloc _).lt); obtain ⟨j0, j1, j2, j3, j4, _⟩ := hI2.out; have k2 := (hb2.cell (p := ⟨w1.heap.size, 2, none⟩) (by simp)).trans (op_new w1 nm1 by1 s); have hT2 := Hid.intro ((hT1.out.alloc _).below hb2 (hT1.out.alloc _).size); replace hb2 := Hid.intro hb2) | (go_at_call 177; refine (hasNumber_any _ _ _ _ _ s hs14 _ hT2.out hn).mono ?_; rintro e w3 ⟨rfl, hb3⟩; rw [hmH.out]; replace hb3 := Hid.intro hb3))
        go_ret
        rw [hRH.out]
        exact ⟨rfl, check_bel hbH.out hb1.out hb2.out hb3.out⟩
      | true =>
        rw [if_neg (by simp [hm])] at hR
        have hRH := Hid.intro hR
        have hIH := Hid.intro hI
        have hTH := Hid.intro hT0
        have hbH := Hid.intro hb0
        have hdH := Hid.intro hd
        have hsH := Hid.intro hs
        have hrH := Hid.intro hr
        have hmH := Hid.intro hm
        clear hR hI hT0 hb0 hd hop hT hs hsn hr hm
        go_enter Tryz.func147, Tryz.ntmps147
        go_wp2_with (first | (go_at_call 170; refine (at_parts _ _ hTH.out).mono ?_; rintro e w1 ⟨⟨nm1, by1, rfl⟩, hb1⟩; rw [hdH.out, hsH.out]; have hI1 := Hid.intro (hIH.out.below hb1 hIH.out.lt); have hT1 := Hid.intro (hTH.out.below hb1 hTH.out.size); have i0 := fun o => (hI1.out.alloc o).o; have i1 := fun o => (hI1.out.alloc o).a; have i2 := fun o => (hI1.out.alloc o).b; have i3 := fun o => (hI1.out.alloc o).n; have i4 := fun o => (hI1.out.alloc o).f; replace hb1 := Hid.intro hb1) | (go_at_call 176; refine (hasRegisters_any _ _ _ _ _ s hs14 _ (hT1.out.alloc _)).mono ?_; rintro e w2 ⟨rfl, hb2⟩; rw [hrH.out]; have hI2 := Hid.intro ((hI1.out.alloc _).below hb2 (hI1.out.alloc _).lt); obtain ⟨j0, j1, j2, j3, j4, _⟩ := hI2.out; have k2 := (hb2.cell (p := ⟨w1.heap.size, 2, none⟩) (by simp)).trans (op_new w1 nm1 by1 s); have hT2 := Hid.intro ((hT1.out.alloc _).below hb2 (hT1.out.alloc _).size); replace hb2 := Hid.intro hb2) | (go_at_call 177; refine (hasNumber_any _ _ _ _ _ s hs14 _ hT2.out hn).mono ?_; rintro e w3 ⟨rfl, hb3⟩; rw [hmH.out]; replace hb3 := Hid.intro hb3))
        go_ret
        rw [hRH.out]
        exact ⟨rfl, check_bel hbH.out hb1.out hb2.out hb3.out⟩
  · rw [if_pos hop] at hR
    have hd : decide (1 ≤ op ∧ op ≤ 43) = false := decide_eq_false hop
    have hRH := Hid.intro hR
    have hIH := Hid.intro hI
    have hTH := Hid.intro hT0
    have hbH := Hid.intro hb0
    have hdH := Hid.intro hd
    have hsH := Hid.intro hs
    clear hR hI hT0 hb0 hd hop hT hs hsn
    go_enter Tryz.func147, Tryz.ntmps147
    go_wp2_with (go_at_call 170; refine (at_parts _ _ hTH.out).mono ?_; rintro e w1 ⟨⟨nm1, by1, rfl⟩, hb1⟩; rw [hdH.out])
    go_ret
    rw [hRH.out]
    exact ⟨rfl, (hbH.out.trans (hb1.mono hbH.out.size)).alloc (Nat.le_trans hbH.out.size hb1.size) _⟩
end Go.Proofs.YtmndccbeddaphaaGreatDoor
/- expr.gather. -/
namespace Go.Proofs.YtmndccbeddaphaaGreatDoor
open Go.ChangeShapes Go.WideShapes Go.ChangeAt Go.RowKit
set_option linter.unusedVariables false
set_option maxRecDepth 100000
theorem drop_at {α : Type} (ts : List α) (i : Nat) (t : α) (h : ts[i]? = some t) : ts.drop i = t :: ts.drop (i + 1) := by
  obtain ⟨hi, he⟩ := List.getElem?_eq_some_iff.1 h
  rw [List.drop_eq_getElem_cons hi, he]
theorem own_len {w : World} {lo : Nat} {T : TypeId} {sz : Nat} {a : Option Addr} {c m n : Nat} {xs : List Value} (h : w.ownsRow lo T sz (.slice a m c) n xs) : m = n := by
  obtain ⟨a', c', h2⟩ := own_slice h
  injection h2 with _ h2 _
end Go.Proofs.YtmndccbeddaphaaGreatDoor
/- slices.Equal at terms; expr.Same and the document's. -/
namespace Go.Proofs.YtmndccbeddaphaaGreatDoor
open Go.ChangeShapes Go.WideShapes Go.ChangeAt Go.RowKit
set_option linter.unusedVariables false
set_option maxRecDepth 100000
theorem tm_ne {t u : Tm} (h : t ≠ u) : (t.name ≠ u.name) ∨ (t.name = u.name ∧ t.coef ≠ u.coef) := by
  by_cases hn : t.name = u.name
  · refine .inr ⟨hn, fun hc => h ?_⟩
    cases t; cases u; simp_all
  · exact .inl hn
theorem list_ne {α : Type} {xs ys : List α} {k : Nat} {t u : α} (h1 : xs[k]? = some t) (h2 : ys[k]? = some u) (h : t ≠ u) : xs ≠ ys := by
  intro e
  subst e
  rw [h1] at h2
  cases h2
  exact h rfl
theorem list_eq {α : Type} {xs ys : List α} (hl : xs.length = ys.length) (h : xs.take xs.length = ys.take xs.length) : xs = ys := by
  rw [List.take_length, hl, List.take_length] at h
  exact h
theorem below_drewN {B : Nat} {a w : World} (h : Below B a w) (n : Nat) : Below B a (w.drewN n) := ⟨h.os, h.tape, h.output, h.size, h.block⟩
def sameL (xs ys : List Tm) (k1 k2 : Int) : Bool := decide (k1 = k2) && decide (xs = ys)
set_option maxHeartbeats 1000000 in
theorem refSame_any (a1 a2 : Option Addr) (c1 c2 : Nat) (xs ys : List Tm) (k1 k2 : Int) (w : World) (h1 : TmLies w a1 xs) (h2 : TmLies w a2 ys) (hm : xs.length ≤ 9000000) (hm2 : ys.length ≤ 9000000) :
    Calls Tryz.prog 92 #[linV (.slice a1 xs.length c1) k1, linV (.slice a2 ys.length c2) k2] w fun e w' => e = .returned (.bool (sameL xs ys k1 k2)) ∧ Below w.heap.size w w' := by
  have hb0 := fun o1 o2 => ((below_alloc w o1).alloc (by simp) o2)
  obtain ⟨n0, hn0⟩ : ∃ n0, n0 = xs.length := ⟨_, rfl⟩
  obtain ⟨n1, hn1⟩ : ∃ n1, n1 = ys.length := ⟨_, rfl⟩
  obtain ⟨bv, hbv⟩ : ∃ bv, bv = sameL xs ys k1 k2 := ⟨_, rfl⟩
  rw [← hn0, ← hn1, ← hbv]
  rw [← hn0] at hm
  rw [← hn1] at hm2
  have hnH := Hid.intro hn0
  have hn1H := Hid.intro hn1
  by_cases hk : k1 = k2
  · have hk' : (k1 != k2) = false := by simp [hk]
    have hbH : Hid (bv = decide (xs = ys)) := by show bv = _; rw [hbv, sameL, hk]; simp
    clear hbv hk
    by_cases hl : n0 = n1
    · subst hl
      have t1 := (two_new w 84 (.slice a1 n0 c1) (.int .u32 k1)).alloc (.cells #[.slice a2 n0 c2, .int .u32 k2] 84)
      have t2 := two_new (w.alloc (.cells #[.slice a1 n0 c1, .int .u32 k1] 84)) 84 (.slice a2 n0 c2) (.int .u32 k2)
      have hbb := hb0 (.cells #[.slice a1 n0 c1, .int .u32 k1] 84) (.cells #[.slice a2 n0 c2, .int .u32 k2] 84)
      simp only [World.size_alloc] at t2
      clear hn0 hn1 hb0
      go_enter Tryz.func92, Tryz.ntmps92
      go_wp2
      all_goals first | omega | skip
      have h1' := Hid.intro (h1.below hbb (Nat.le_refl _))
      have h2' := Hid.intro (h2.below hbb (Nat.le_refl _))
      clear h1 h2
      generalize ((w.alloc (.cells #[.slice a1 n0 c1, .int .u32 k1] 84)).alloc (.cells #[.slice a2 n0 c2, .int .u32 k2] 84)) = w0 at *
      obtain ⟨_, x0, x1, _, _⟩ := t1
      obtain ⟨_, y0, y1, _, _⟩ := t2
      go_loopw [5] (fun i wr => ∃ k n : Nat, k ≤ n0 ∧ i = .int .i64 k ∧ wr = w0.drewN n ∧ Hid (xs.take k = ys.take k)) (fun i _ => n0 - (intOf i).toNat)
      case atStart => exact ⟨0, 0, Nat.zero_le _, rfl, rfl, rfl⟩
      case round =>
        obtain ⟨k, n, hk, rfl, rfl, heq⟩ := hrel
        have x0' : (w0.drewN n).cell? ⟨w.heap.size, 0, none⟩ = some (.slice a1 n0 c1) := x0
        have y0' : (w0.drewN n).cell? ⟨w.heap.size + 1, 0, none⟩ = some (.slice a2 n0 c2) := y0
        by_cases hlt : k < n0
        · obtain ⟨t, ht⟩ : ∃ t, xs[k]? = some t := ⟨xs[k]'(by rw [← hnH.out]; exact hlt), List.getElem?_eq_getElem _⟩
          obtain ⟨u, hu⟩ : ∃ u, ys[k]? = some u := ⟨ys[k]'(by rw [← hn1H.out]; exact hlt), List.getElem?_eq_getElem _⟩
          rcases h1'.out with hx | ⟨g1, o1, rfl, _, hc1⟩
          · rw [hx] at ht; simp at ht
          rcases h2'.out with hx | ⟨g2, o2, rfl, _, hc2⟩
          · rw [hx] at hu; simp at hu
          obtain ⟨q0, q1⟩ := hc1 k t ht
          obtain ⟨p0, p1⟩ := hc2 k u hu
          clear hc1 hc2
          by_cases htu : t = u
          · subst htu
            have hnext : Hid (xs.take (k + 1) = ys.take (k + 1)) := by
              show _ = _
              rw [take_at xs k t ht, take_at ys k t hu, heq.out]
            clear ht hu
            go_wp2
            go_quiet (fail)
            go_wp2
            all_goals first
              | omega
              | skip
            go_roundw
            case rel => exact ⟨k + 1, n + nq, by omega, by go_num, by simp, hnext⟩
            case measure => simp [intOf]; omega
          · have hf : bv = false := by rw [hbH.out]; exact decide_eq_false (list_ne ht hu htu)
            subst hf
            clear ht hu
            rcases tm_ne htu with hne | ⟨hne, hce⟩
            · have e1 : ((str t.name).toList == (str u.name).toList) = false := by rw [str_toList, str_toList]; simp [hne]
              clear htu hne
              go_wp2
              go_quiet (fail)
              go_wp2
              all_goals first
                | omega
                | skip
              go_ret
              exact ⟨rfl, below_drewN (below_drewN hbb _) _⟩
            · have e1 : ((str t.name).toList == (str u.name).toList) = true := by rw [hne]; simp
              have e2 : (t.coef == u.coef) = false := by simp [hce]
              clear htu hne hce
              go_wp2
              go_quiet (fail)
              go_wp2
              all_goals first
                | omega
                | skip
              go_ret
              exact ⟨rfl, below_drewN (below_drewN hbb _) _⟩
        · have ht : bv = true := by
            rw [hbH.out]
            have e : k = xs.length := by rw [← hnH.out]; omega
            exact decide_eq_true (list_eq (by rw [← hnH.out, hn1H.out]) (by have := heq.out; rwa [e] at this))
          subst ht
          go_wp2
          all_goals first
            | omega
            | skip
          go_ret
          exact ⟨rfl, below_drewN hbb _⟩
    · have hne : xs ≠ ys := fun e => hl (by rw [hn0, hn1, e])
      have hf : bv = false := by rw [hbH.out]; exact decide_eq_false hne
      subst hf
      have hne2 : ((n0 : Int) != (n1 : Int)) = true := by simp; omega
      clear hne hl hn0 hn1
      go_enter Tryz.func92, Tryz.ntmps92
      go_wp2
      all_goals first
        | omega
        | skip
      go_ret
      exact ⟨rfl, hb0 _ _⟩
  · have hk' : (k1 != k2) = true := by simp [hk]
    have hf : bv = false := by rw [hbv, sameL]; simp [hk]
    subst hf
    clear hbv hk hn0 hn1
    go_enter Tryz.func92, Tryz.ntmps92
    go_wp2
    go_ret
    exact ⟨rfl, hb0 _ _⟩
end Go.Proofs.YtmndccbeddaphaaGreatDoor
namespace Go.Proofs.YtmndccbeddaphaaGreatDoor
open Go.ChangeShapes Go.WideShapes Go.ChangeAt Go.RowKit
set_option linter.unusedVariables false
set_option maxRecDepth 100000
structure BelowOf (w : World) where
  wd : World
  h : Below w.heap.size w wd
instance {w : World} : Inhabited (BelowOf w) := ⟨⟨w, Below.refl _ _⟩⟩
theorem BelowOf.cell {w : World} (p : BelowOf w) {a : Addr} {v : Value} (ha : a.block < w.heap.size) (h : w.cell? a = some v) : p.wd.cell? a = some v := by rw [p.h.cell ha]; exact h
theorem wp_region_quiet_below {P : Program} {id : Nat} {Q : Exit → Act → World → Prop} {a : Act} {w : World} {l : List Oper} (hm : P.follows .mixedOrders = true) (hB : Region.lexB .any l.toArray = true)
    (h : wpQuiet P l.toArray (fun w' => ∃ p : BelowOf w, w' = p.wd) (fun a' => ∀ w', (∃ p : BelowOf w, w' = p.wd) → Q .normal a' w') l a) : (Code.region id l.toArray true).wp P Q a w :=
  wp_region_quiet (C := fun w' => ∃ p : BelowOf w, w' = p.wd) hm hB ⟨⟨w.drew, (Below.refl _ _).drew⟩, rfl⟩ (by simpa using h)
theorem wpQuiet_skip {P : Program} {ops : Array Oper} {C : World → Prop} {Q : Act → Prop} {a : Act} {o : Oper} {rest : List Oper} (h : Region.wanted o (yielded ops a.tmps) = false) (k : wpQuiet P ops C Q rest (a.put o.dst undef)) : wpQuiet P ops C Q (o :: rest) a := by
  unfold wpQuiet
  rw [if_neg (by rw [h]; decide)]
  exact k
theorem below_calls {P : Program} {f : FuncId} {args : Array Value} {w : World} {p : BelowOf w} {v : Value}
    (h : Calls P f args p.wd fun e w' => e = .returned v ∧ Below p.wd.heap.size p.wd w') : Calls P f args p.wd fun e w'' => e = .returned v ∧ ∃ p' : BelowOf w, w'' = p'.wd :=
  h.mono fun _ w' ⟨he, hb⟩ => ⟨he, ⟨w', p.h.trans (hb.mono p.h.size)⟩, rfl⟩
end Go.Proofs.YtmndccbeddaphaaGreatDoor
