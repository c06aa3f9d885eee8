/- expr.gather. -/
import Derived.Test.YtmndccbeddaphaaGreatDoorIFind
import Derived.Deep.RegionHeld3
import Derived.Deep.DeepCutAuto
import Derived.Shelf.SlGeneric
import Derived.Shelf.SlSortCmp.WholeK
import Derived.Shelf.Slices.Turned
import Derived.Test.YtmndccbeddaphaaGreatDoorProg
import Derived.Shelf.SlSortCmp.NoneTotal
namespace Go.Proofs.YtmndccbeddaphaaGreatDoor
open Go.ChangeShapes Go.WideShapes Go.ChangeAt Go.RowKit
set_option linter.unusedVariables false
set_option maxRecDepth 100000
def regB (a b n : Int) (s : Nat) : Bool := decide (0 ≤ a ∧ a ≤ aMax s ∧ 0 ≤ b ∧ b ≤ bMax s) && (decide (s ≠ 7) || (decide (nMin s ≤ n) && decide (n ≤ nMax s)))
theorem hasRegisters_any (op a b n f : Int) (s : Nat) (hs : s < 14) (w : World) (hT : Tab w) :
    Calls Tryz.prog 176 #[instV op a b n f, .int .i64 (s : Int)] w fun e w' => e = .returned (.bool (regB a b n s)) ∧ Below w.heap.size w w' := by
  have q0 := fun o => ((hT.alloc o).sh s hs).1
  have q1 := fun o => ((hT.alloc o).sh s hs).2.1
  have q2 := fun o => ((hT.alloc o).sh s hs).2.2.1
  have q3 := fun o => ((hT.alloc o).sh s hs).2.2.2.1
  have q4 := fun o => ((hT.alloc o).sh s hs).2.2.2.2
  unfold regB
  generalize aMax s = A at *
  generalize bMax s = B at *
  generalize nMin s = L at *
  generalize nMax s = M at *
  generalize sizeAt s = Z at *
  have hsz := hT.size
  clear hT
  by_cases h1 : a < 0
  · rw [decide_eq_false (by omega : ¬ (0 ≤ a ∧ a ≤ A ∧ 0 ≤ b ∧ b ≤ B)), Bool.false_and]
    go_enter Tryz.func176, Tryz.ntmps176
    go_wp2_with (go_at_call 191; refine (inEnds_any _ _ _ _ _ _ _).mono ?_; rintro e w' ⟨rfl, hbel⟩; replace hbel := Hid.intro hbel)
    all_goals first | omega | skip
    go_ret
    exact ⟨rfl, ((ibelow_alloc w _).alloc (by simp) _)⟩
  by_cases h2 : a > A
  · rw [decide_eq_false (by omega : ¬ (0 ≤ a ∧ a ≤ A ∧ 0 ≤ b ∧ b ≤ B)), Bool.false_and]
    go_enter Tryz.func176, Tryz.ntmps176
    go_wp2_with (go_at_call 191; refine (inEnds_any _ _ _ _ _ _ _).mono ?_; rintro e w' ⟨rfl, hbel⟩; replace hbel := Hid.intro hbel)
    all_goals first | omega | skip
    go_ret
    exact ⟨rfl, ((ibelow_alloc w _).alloc (by simp) _)⟩
  by_cases h3 : b < 0
  · rw [decide_eq_false (by omega : ¬ (0 ≤ a ∧ a ≤ A ∧ 0 ≤ b ∧ b ≤ B)), Bool.false_and]
    go_enter Tryz.func176, Tryz.ntmps176
    go_wp2_with (go_at_call 191; refine (inEnds_any _ _ _ _ _ _ _).mono ?_; rintro e w' ⟨rfl, hbel⟩; replace hbel := Hid.intro hbel)
    all_goals first | omega | skip
    go_ret
    exact ⟨rfl, ((ibelow_alloc w _).alloc (by simp) _)⟩
  by_cases h4 : b > B
  · rw [decide_eq_false (by omega : ¬ (0 ≤ a ∧ a ≤ A ∧ 0 ≤ b ∧ b ≤ B)), Bool.false_and]
    go_enter Tryz.func176, Tryz.ntmps176
    go_wp2_with (go_at_call 191; refine (inEnds_any _ _ _ _ _ _ _).mono ?_; rintro e w' ⟨rfl, hbel⟩; replace hbel := Hid.intro hbel)
    all_goals first | omega | skip
    go_ret
    exact ⟨rfl, ((ibelow_alloc w _).alloc (by simp) _)⟩
  rw [decide_eq_true (by omega : 0 ≤ a ∧ a ≤ A ∧ 0 ≤ b ∧ b ≤ B), Bool.true_and]
  by_cases h5 : s = 7
  · rw [decide_eq_false (by omega : ¬ s ≠ 7), Bool.false_or]
    have e5 : ((s : Int) == 7) = true := by simp [h5]
    have e6 : ((s : Int) != 7) = false := by simp [h5]
    clear h5
    go_enter Tryz.func176, Tryz.ntmps176
    go_wp2_with (go_at_call 191; refine (inEnds_any _ _ _ _ _ _ _).mono ?_; rintro e w' ⟨rfl, hbel⟩; replace hbel := Hid.intro hbel)
    all_goals first | omega | skip
    go_ret
    exact ⟨rfl, ((ibelow_alloc w _).alloc (by simp) _).trans (hbel.out.mono (by simp; omega))⟩
  · rw [decide_eq_true h5, Bool.true_or]
    have e5 : ((s : Int) == 7) = false := by simp; omega
    have e6 : ((s : Int) != 7) = true := by simp; omega
    clear h5
    go_enter Tryz.func176, Tryz.ntmps176
    go_wp2_with (go_at_call 191; refine (inEnds_any _ _ _ _ _ _ _).mono ?_; rintro e w' ⟨rfl, hbel⟩; replace hbel := Hid.intro hbel)
    all_goals first | omega | skip
    go_ret
    exact ⟨rfl, ((ibelow_alloc w _).alloc (by simp) _)⟩
def instL (op a b n f : Int) : List Value := [.int .i64 op, .int .i64 a, .int .i64 b, .int .i32 n, .int .i64 f]
theorem inst_cell (w : World) (op a b n f : Int) (j : Nat) : (w.alloc (.cells #[.int .i64 op, .int .i64 a, .int .i64 b, .int .i32 n, .int .i64 f] 81)).cell? ⟨w.heap.size, j, none⟩ = (instL op a b n f).toArray[j]? := cell_block (heap_alloc_new w _) j
structure Seven (g s : Nat) (n f A B L M Z : Int) (w : World) : Prop where
  n : w.cell? ⟨g, 3, none⟩ = some (.int .i32 n)
  f : w.cell? ⟨g, 4, none⟩ = some (.int .i64 f)
  a : w.cell? ⟨2, s * 5, none⟩ = some (.int .i64 A)
  b : w.cell? ⟨2, s * 5 + 1, none⟩ = some (.int .i64 B)
  l : w.cell? ⟨2, s * 5 + 2, none⟩ = some (.int .i32 L)
  m : w.cell? ⟨2, s * 5 + 3, none⟩ = some (.int .i32 M)
  z : w.cell? ⟨2, s * 5 + 4, none⟩ = some (.int .i64 Z)
  lt : g < w.heap.size
  two : 2 < w.heap.size
theorem Seven.drew {g s : Nat} {n f A B L M Z : Int} {w : World} (h : Seven g s n f A B L M Z w) : Seven g s n f A B L M Z w.drew := ⟨h.n, h.f, h.a, h.b, h.l, h.m, h.z, h.lt, h.two⟩
theorem Seven.below {g s : Nat} {n f A B L M Z : Int} {w w' : World} (h : Seven g s n f A B L M Z w) (hb : Below w.heap.size w w') : Seven g s n f A B L M Z w' :=
  ⟨(hb.cell (p := ⟨g, 3, none⟩) h.lt).trans h.n, (hb.cell (p := ⟨g, 4, none⟩) h.lt).trans h.f, (hb.cell (p := ⟨2, s * 5, none⟩) h.two).trans h.a, (hb.cell (p := ⟨2, s * 5 + 1, none⟩) h.two).trans h.b, (hb.cell (p := ⟨2, s * 5 + 2, none⟩) h.two).trans h.l, (hb.cell (p := ⟨2, s * 5 + 3, none⟩) h.two).trans h.m, (hb.cell (p := ⟨2, s * 5 + 4, none⟩) h.two).trans h.z, Nat.lt_of_lt_of_le h.lt hb.size, Nat.lt_of_lt_of_le h.two hb.size⟩
def numB (n f : Int) (s : Nat) : Bool := if spansB (s : Int) then fitsB n f else decide (f = 0) && (decide (nMin s ≤ n) && decide (n ≤ nMax s))
theorem hasNumber_any (op a b n f : Int) (s : Nat) (hs : s < 14) (w : World) (hT : Tab w) (hn : -2147483648 ≤ n ∧ n ≤ 2147483647) :
    Calls Tryz.prog 177 #[instV op a b n f, .int .i64 (s : Int)] w fun e w' => e = .returned (.bool (numB n f s)) ∧ Below w.heap.size w w' := by
  have q0 := fun o => ((hT.alloc o).sh s hs).1
  have q1 := fun o => ((hT.alloc o).sh s hs).2.1
  have q2 := fun o => ((hT.alloc o).sh s hs).2.2.1
  have q3 := fun o => ((hT.alloc o).sh s hs).2.2.2.1
  have q4 := fun o => ((hT.alloc o).sh s hs).2.2.2.2
  unfold numB
  generalize aMax s = A at *
  generalize bMax s = B at *
  generalize nMin s = L at *
  generalize nMax s = M at *
  generalize sizeAt s = Z at *
  have hsz := hT.size
  clear hT
  generalize hsp : spansB (s : Int) = sp
  cases sp with
  | true =>
    rw [if_pos rfl]
    go_enter Tryz.func177, Tryz.ntmps177
    go_wp2_with (first | (go_at_call 175; refine (spans_any _ _).mono ?_; rintro e w' ⟨rfl, rfl⟩; rw [hsp]) | (go_at_call 192; refine (reaches_any _ _ _ hn).mono ?_; rintro e w' ⟨rfl, rfl⟩))
    all_goals first | omega | skip
    go_ret
    exact ⟨rfl, ibelow_alloc w _⟩
  | false =>
    rw [if_neg (by simp)]
    have c3 := inst_cell w op a b n f 3
    have c4 := inst_cell w op a b n f 4
    simp only [instL, List.getElem?_toArray, List.getElem?_cons_succ, List.getElem?_cons_zero] at c3 c4
    have hbox := ibelow_alloc w (.cells #[.int .i64 op, .int .i64 a, .int .i64 b, .int .i32 n, .int .i64 f] 81)
    have hS : Seven w.heap.size s n f A B L M Z (w.alloc (.cells #[.int .i64 op, .int .i64 a, .int .i64 b, .int .i32 n, .int .i64 f] 81)) := ⟨c3, c4, q0 _, q1 _, q2 _, q3 _, q4 _, by simp, by simp; omega⟩
    by_cases h1 : f = 0
    · subst h1
      rw [decide_eq_true rfl, Bool.true_and]
      go_enter Tryz.func177, Tryz.ntmps177
      go_wp2_with (go_at_call 175; refine (spans_any _ _).mono ?_; rintro e w' ⟨rfl, rfl⟩; rw [hsp])
      clear c3 c4 q0 q1 q2 q3 q4
      generalize w.alloc (.cells #[.int .i64 op, .int .i64 a, .int .i64 b, .int .i32 n, .int .i64 0] 81) = w0 at *
      have hSH := Hid.intro hS
      have hbH := Hid.intro hbox
      obtain ⟨c3, c4, q0, q1, q2, q3, q4, l1, l2⟩ := hS
      clear l1 l2 hbox
      have b0 : (0 : Int) ≤ (s : Int) := by omega
      have b1 : (s : Int) < 14 := by omega
      have b2 : (s : Int) ≤ 14 := by omega
      go_region_held3 (fun w' => w'.cell? ⟨w.heap.size, 3, none⟩ = some (.int .i32 n) ∧ w'.cell? ⟨w.heap.size, 4, none⟩ = some (.int .i64 0) ∧ w'.cell? ⟨2, s * 5, none⟩ = some (.int .i64 A) ∧ w'.cell? ⟨2, s * 5 + 1, none⟩ = some (.int .i64 B) ∧ w'.cell? ⟨2, s * 5 + 2, none⟩ = some (.int .i32 L) ∧ w'.cell? ⟨2, s * 5 + 3, none⟩ = some (.int .i32 M) ∧ w'.cell? ⟨2, s * 5 + 4, none⟩ = some (.int .i64 Z)) (go_keep)
        ((first
          | (go_at_call 191; refine (inEnds_any _ _ _ _ _ _ _).mono ?_; rintro e w1 ⟨rfl, hbel⟩; obtain ⟨d3, d4, p0, p1, p2, p3, p4, l1, l2⟩ := hSH.out.drew.below hbel; clear l1 l2; replace hbel := Hid.intro hbel)))
      all_goals go_wp2_with fail
      all_goals first | omega | skip
      all_goals go_ret
      all_goals exact ⟨rfl, hbH.out.drew.trans (hbel.out.mono hbH.out.size)⟩
    · rw [decide_eq_false h1, Bool.false_and]
      have e1 : (f == 0) = false := by simpa using h1
      go_enter Tryz.func177, Tryz.ntmps177
      go_wp2_with (go_at_call 175; refine (spans_any _ _).mono ?_; rintro e w' ⟨rfl, rfl⟩; rw [hsp])
      clear c3 c4 q0 q1 q2 q3 q4
      generalize w.alloc (.cells #[.int .i64 op, .int .i64 a, .int .i64 b, .int .i32 n, .int .i64 f] 81) = w0 at *
      have hbH := Hid.intro hbox
      obtain ⟨c3, c4, q0, q1, q2, q3, q4, l1, l2⟩ := hS
      clear l1 l2 hbox
      go_region
      all_goals go_wp2_with fail
      all_goals go_ret
      all_goals exact ⟨rfl, hbH.out.drew⟩
end Go.Proofs.YtmndccbeddaphaaGreatDoor
namespace Go.Proofs.YtmndccbeddaphaaGreatDoor
open Go.ChangeShapes Go.WideShapes Go.ChangeAt Go.RowKit
set_option linter.unusedVariables false
set_option maxRecDepth 100000
structure InstAt (w : World) (g : Nat) (op a b n f : Int) : Prop where
  o : w.cell? ⟨g, 0, none⟩ = some (.int .i64 op)
  a : w.cell? ⟨g, 1, none⟩ = some (.int .i64 a)
  b : w.cell? ⟨g, 2, none⟩ = some (.int .i64 b)
  n : w.cell? ⟨g, 3, none⟩ = some (.int .i32 n)
  f : w.cell? ⟨g, 4, none⟩ = some (.int .i64 f)
  lt : g < w.heap.size
theorem InstAt.below {w w' : World} {g B : Nat} {op a b n f : Int} (h : InstAt w g op a b n f) (hb : Below B w w') (hB : g < B) : InstAt w' g op a b n f :=
  ⟨(hb.cell (p := ⟨g, 0, none⟩) hB).trans h.o, (hb.cell (p := ⟨g, 1, none⟩) hB).trans h.a, (hb.cell (p := ⟨g, 2, none⟩) hB).trans h.b, (hb.cell (p := ⟨g, 3, none⟩) hB).trans h.n, (hb.cell (p := ⟨g, 4, none⟩) hB).trans h.f, Nat.lt_of_lt_of_le h.lt hb.size⟩
theorem InstAt.alloc {w : World} {g : Nat} {op a b n f : Int} (h : InstAt w g op a b n f) (o : Obj) : InstAt (w.alloc o) g op a b n f := h.below (ibelow_alloc w o) h.lt
theorem inst_new (w : World) (op a b n f : Int) : InstAt (w.alloc (.cells #[.int .i64 op, .int .i64 a, .int .i64 b, .int .i32 n, .int .i64 f] 81)) w.heap.size op a b n f :=
  ⟨inst_cell w op a b n f 0, inst_cell w op a b n f 1, inst_cell w op a b n f 2, inst_cell w op a b n f 3, inst_cell w op a b n f 4, by simp⟩
theorem op_new (w : World) (s : List UInt8) (b h : Int) : (w.alloc (.cells #[.string (istr s), .int .u8 b, .int .i64 h] 221)).cell? ⟨w.heap.size, 2, none⟩ = some (.int .i64 h) := (cell_block (heap_alloc_new w _) 2).trans rfl
def checkN (op a b n f : Int) : Int := if ¬ (1 ≤ op ∧ op ≤ 43) then 11 else if regB a b n (shapeN op).toNat = false then 12 else if numB n f (shapeN op).toNat = false then 13 else 0
theorem shape_nat (op : Int) : ∃ s : Nat, shapeN op = (s : Int) ∧ s < 14 ∧ (shapeN op).toNat = s := by
  have h : 0 ≤ shapeN op ∧ shapeN op ≤ 13 := by
    by_cases h : 1 ≤ op ∧ op ≤ 43
    · have := shapeN_some h
      omega
    · rw [shapeN, if_neg h]
      omega
  exact ⟨(shapeN op).toNat, by omega, by omega, rfl⟩
theorem check_bel {w w0 w1 w2 w3 : World} {o : Obj} (h0 : Below w.heap.size w w0) (h1 : Below w0.heap.size w0 w1) (h2 : Below (w1.alloc o).heap.size (w1.alloc o) w2) (h3 : Below w2.heap.size w2 w3) : Below w.heap.size w w3 := by
  have s0 := h0.size
  have s1 := h1.size
  have s2 := h2.size
  simp at s2
  exact (((h0.trans (h1.mono s0)).alloc (by omega) o).trans (h2.mono (by simp; omega))).trans (h3.mono (by omega))
set_option maxHeartbeats 1000000 in
theorem check_any (op a b n f : Int) (w : World) (hT : Tab w) (hn : -2147483648 ≤ n ∧ n ≤ 2147483647) :
    Calls Tryz.prog 147 #[instV op a b n f] w fun e w' => e = .returned (.int .i64 (checkN op a b n f)) ∧ Below w.heap.size w w' := by
  obtain ⟨s, hs, hs14, hsn⟩ := shape_nat op
  have hI := inst_new w op a b n f
  have hb0 := ibelow_alloc w (.cells #[.int .i64 op, .int .i64 a, .int .i64 b, .int .i32 n, .int .i64 f] 81)
  have hT0 := hT.alloc (.cells #[.int .i64 op, .int .i64 a, .int .i64 b, .int .i32 n, .int .i64 f] 81)
  obtain ⟨R, hR⟩ : ∃ R, R = checkN op a b n f := ⟨_, rfl⟩
  rw [← hR]
  unfold checkN at hR
  rw [hsn] at hR
  by_cases hop : 1 ≤ op ∧ op ≤ 43
  · rw [if_neg (by simpa using hop)] at hR
    have hd : decide (1 ≤ op ∧ op ≤ 43) = true := decide_eq_true hop
    cases hr : regB a b n s with
    | false =>
      rw [if_pos hr] at hR
      have hRH := Hid.intro hR
      have hIH := Hid.intro hI
      have hTH := Hid.intro hT0
      have hbH := Hid.intro hb0
      have hdH := Hid.intro hd
      have hsH := Hid.intro hs
      have hrH := Hid.intro hr
      clear hR hI hT0 hb0 hd hop hT hs hsn hr
      go_enter Tryz.func147, Tryz.ntmps147
      go_wp2_with (first | (go_at_call 170; refine (at_parts _ _ hTH.out).mono ?_; rintro e w1 ⟨⟨nm1, by1, rfl⟩, hb1⟩; rw [hdH.out, hsH.out]; have hI1 := Hid.intro (hIH.out.below hb1 hIH.out.lt); have hT1 := Hid.intro (hTH.out.below hb1 hTH.out.size); have i0 := fun o => (hI1.out.alloc o).o; have i1 := fun o => (hI1.out.alloc o).a; have i2 := fun o => (hI1.out.alloc o).b; have i3 := fun o => (hI1.out.alloc o).n; have i4 := fun o => (hI1.out.alloc o).f; replace hb1 := Hid.intro hb1) | (go_at_call 176; refine (hasRegisters_any _ _ _ _ _ s hs14 _ (hT1.out.alloc _)).mono ?_; rintro e w2 ⟨rfl, hb2⟩; rw [hrH.out]; have hI2 := Hid.intro ((hI1.out.alloc _).below hb2 (hI1.out.alloc _).lt); obtain ⟨j0, j1, j2, j3, j4, _⟩ := hI2.out; have k2 := (hb2.cell (p := ⟨w1.heap.size, 2, none⟩) (by simp)).trans (op_new w1 nm1 by1 s); have hT2 := Hid.intro ((hT1.out.alloc _).below hb2 (hT1.out.alloc _).size); replace hb2 := Hid.intro hb2))
      go_ret
      rw [hRH.out]
      exact ⟨rfl, ((hbH.out.trans (hb1.out.mono hbH.out.size)).alloc (Nat.le_trans hbH.out.size hb1.out.size) _).trans (hb2.out.mono (by have := hbH.out.size; have := hb1.out.size; simp at *; omega))⟩
    | true =>
      rw [if_neg (by simp [hr])] at hR
      cases hm : numB n f s with
      | false =>
        rw [if_pos hm] at hR
        have hRH := Hid.intro hR
        have hIH := Hid.intro hI
        have hTH := Hid.intro hT0
        have hbH := Hid.intro hb0
        have hdH := Hid.intro hd
        have hsH := Hid.intro hs
        have hrH := Hid.intro hr
        have hmH := Hid.intro hm
        clear hR hI hT0 hb0 hd hop hT hs hsn hr hm
        go_enter Tryz.func147, Tryz.ntmps147
        go_wp2_with (first | (go_at_call 170; refine (at_parts _ _ hTH.out).mono ?_; rintro e w1 ⟨⟨nm1, by1, rfl⟩, hb1⟩; rw [hdH.out, hsH.out]; have hI1 := Hid.intro (hIH.out.below hb1 hIH.out.lt); have hT1 := Hid.intro (hTH.out.below hb1 hTH.out.size); have i0 := fun o => (hI1.out.alloc o).o; have i1 := fun o => (hI1.out.alloc o).a; have i2 := fun o => (hI1.out.alloc o).b; have i3 := fun o => (hI1.out.alloc o).n; have i4 := fun o => (hI1.out.alloc o).f; replace hb1 := Hid.intro hb1) | (go_at_call 176; refine (hasRegisters_any _ _ _ _ _ s hs14 _ (hT1.out.alloc _)).mono ?_; rintro e w2 ⟨rfl, hb2⟩; rw [hrH.out]; have hI2 := Hid.intro ((hI1.out.alloc _).below hb2 (hI1.out.alloc _).lt); obtain ⟨j0, j1, j2, j3, j4, _⟩ := hI2.out; have k2 := (hb2.cell (p := ⟨w1.heap.size, 2, none⟩) (by simp)).trans (op_new w1 nm1 by1 s); have hT2 := Hid.intro ((hT1.out.alloc _).below hb2 (hT1.out.alloc _).size); replace hb2 := Hid.intro hb2) | (go_at_call 177; refine (hasNumber_any _ _ _ _ _ s hs14 _ hT2.out hn).mono ?_; rintro e w3 ⟨rfl, hb3⟩; rw [hmH.out]; replace hb3 := Hid.intro hb3))
        go_ret
        rw [hRH.out]
        exact ⟨rfl, check_bel hbH.out hb1.out hb2.out hb3.out⟩
      | true =>
        rw [if_neg (by simp [hm])] at hR
        have hRH := Hid.intro hR
        have hIH := Hid.intro hI
        have hTH := Hid.intro hT0
        have hbH := Hid.intro hb0
        have hdH := Hid.intro hd
        have hsH := Hid.intro hs
        have hrH := Hid.intro hr
        have hmH := Hid.intro hm
        clear hR hI hT0 hb0 hd hop hT hs hsn hr hm
        go_enter Tryz.func147, Tryz.ntmps147
        go_wp2_with (first | (go_at_call 170; refine (at_parts _ _ hTH.out).mono ?_; rintro e w1 ⟨⟨nm1, by1, rfl⟩, hb1⟩; rw [hdH.out, hsH.out]; have hI1 := Hid.intro (hIH.out.below hb1 hIH.out.lt); have hT1 := Hid.intro (hTH.out.below hb1 hTH.out.size); have i0 := fun o => (hI1.out.alloc o).o; have i1 := fun o => (hI1.out.alloc o).a; have i2 := fun o => (hI1.out.alloc o).b; have i3 := fun o => (hI1.out.alloc o).n; have i4 := fun o => (hI1.out.alloc o).f; replace hb1 := Hid.intro hb1) | (go_at_call 176; refine (hasRegisters_any _ _ _ _ _ s hs14 _ (hT1.out.alloc _)).mono ?_; rintro e w2 ⟨rfl, hb2⟩; rw [hrH.out]; have hI2 := Hid.intro ((hI1.out.alloc _).below hb2 (hI1.out.alloc _).lt); obtain ⟨j0, j1, j2, j3, j4, _⟩ := hI2.out; have k2 := (hb2.cell (p := ⟨w1.heap.size, 2, none⟩) (by simp)).trans (op_new w1 nm1 by1 s); have hT2 := Hid.intro ((hT1.out.alloc _).below hb2 (hT1.out.alloc _).size); replace hb2 := Hid.intro hb2) | (go_at_call 177; refine (hasNumber_any _ _ _ _ _ s hs14 _ hT2.out hn).mono ?_; rintro e w3 ⟨rfl, hb3⟩; rw [hmH.out]; replace hb3 := Hid.intro hb3))
        go_ret
        rw [hRH.out]
        exact ⟨rfl, check_bel hbH.out hb1.out hb2.out hb3.out⟩
  · rw [if_pos hop] at hR
    have hd : decide (1 ≤ op ∧ op ≤ 43) = false := decide_eq_false hop
    have hRH := Hid.intro hR
    have hIH := Hid.intro hI
    have hTH := Hid.intro hT0
    have hbH := Hid.intro hb0
    have hdH := Hid.intro hd
    have hsH := Hid.intro hs
    clear hR hI hT0 hb0 hd hop hT hs hsn
    go_enter Tryz.func147, Tryz.ntmps147
    go_wp2_with (go_at_call 170; refine (at_parts _ _ hTH.out).mono ?_; rintro e w1 ⟨⟨nm1, by1, rfl⟩, hb1⟩; rw [hdH.out])
    go_ret
    rw [hRH.out]
    exact ⟨rfl, (hbH.out.trans (hb1.mono hbH.out.size)).alloc (Nat.le_trans hbH.out.size hb1.size) _⟩
end Go.Proofs.YtmndccbeddaphaaGreatDoor
namespace Go.Proofs.YtmndccbeddaphaaGreatDoor
open Go.ChangeShapes Go.WideShapes Go.ChangeAt Go.RowKit
set_option linter.unusedVariables false
set_option maxRecDepth 100000
theorem take_at {α : Type} (ts : List α) (i : Nat) (t : α) (h : ts[i]? = some t) : ts.take (i + 1) = ts.take i ++ [t] := by
  obtain ⟨hi, he⟩ := List.getElem?_eq_some_iff.1 h
  rw [List.take_add_one, h]
  rfl
end Go.Proofs.YtmndccbeddaphaaGreatDoor
namespace Go.Proofs.YtmndccbeddaphaaGreatDoor
open Go.ChangeShapes Go.WideShapes Go.ChangeAt Go.RowKit
set_option linter.unusedVariables false
set_option maxRecDepth 100000
theorem drop_at {α : Type} (ts : List α) (i : Nat) (t : α) (h : ts[i]? = some t) : ts.drop i = t :: ts.drop (i + 1) := by
  obtain ⟨hi, he⟩ := List.getElem?_eq_some_iff.1 h
  rw [List.drop_eq_getElem_cons hi, he]
theorem own_len {w : World} {lo : Nat} {T : TypeId} {sz : Nat} {a : Option Addr} {c m n : Nat} {xs : List Value} (h : w.ownsRow lo T sz (.slice a m c) n xs) : m = n := by
  obtain ⟨a', c', h2⟩ := own_slice h
  injection h2 with _ h2 _
end Go.Proofs.YtmndccbeddaphaaGreatDoor
