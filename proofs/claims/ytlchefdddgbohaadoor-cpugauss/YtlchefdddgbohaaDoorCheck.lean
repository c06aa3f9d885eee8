/- isa's registers, numbers, Check and Len. -/
import Derived.Test.YtlchefdddgbohaaDoorRefF
import Derived.Deep.RegionHeld3
import Derived.Deep.DeepCutAuto
namespace Go.Proofs.YtlchefdddgbohaaDoor
open Go.ChangeShapes Go.WideShapes Go.ChangeAt Go.RowKit
set_option linter.unusedVariables false
set_option maxRecDepth 100000

/-- are the registers those of the shape? -/
def regB (a b n : Int) (s : Nat) : Bool := decide (0 ≤ a ∧ a ≤ aMax s ∧ 0 ≤ b ∧ b ≤ bMax s) && (decide (s ≠ 7) || (decide (nMin s ≤ n) && decide (n ≤ nMax s)))

theorem hasRegisters_any (op a b n f : Int) (s : Nat) (hs : s < 14) (w : World) (hT : Tab w) :
    Calls Tryd.prog 43 #[instV op a b n f, .int .i64 (s : Int)] w fun e w' => e = .returned (.bool (regB a b n s)) ∧ Below w.heap.size w w' := by
  have q0 := fun o => ((hT.alloc o).sh s hs).1
  have q1 := fun o => ((hT.alloc o).sh s hs).2.1
  have q2 := fun o => ((hT.alloc o).sh s hs).2.2.1
  have q3 := fun o => ((hT.alloc o).sh s hs).2.2.2.1
  have q4 := fun o => ((hT.alloc o).sh s hs).2.2.2.2
  unfold regB
  generalize aMax s = A at *
  generalize bMax s = B at *
  generalize nMin s = L at *
  generalize nMax s = M at *
  generalize sizeAt s = Z at *
  have hsz := hT.size
  clear hT
  by_cases h1 : a < 0
  · rw [decide_eq_false (by omega : ¬ (0 ≤ a ∧ a ≤ A ∧ 0 ≤ b ∧ b ≤ B)), Bool.false_and]
    go_enter Tryd.func43, Tryd.ntmps43
    go_wp2_with (go_at_call 62; refine (inEnds_any _ _ _ _ _ _ _).mono ?_; rintro e w' ⟨rfl, hbel⟩; replace hbel := Hid.intro hbel)
    all_goals first | omega | skip
    go_ret
    exact ⟨rfl, ((below_alloc w _).alloc (by simp) _)⟩
  by_cases h2 : a > A
  · rw [decide_eq_false (by omega : ¬ (0 ≤ a ∧ a ≤ A ∧ 0 ≤ b ∧ b ≤ B)), Bool.false_and]
    go_enter Tryd.func43, Tryd.ntmps43
    go_wp2_with (go_at_call 62; refine (inEnds_any _ _ _ _ _ _ _).mono ?_; rintro e w' ⟨rfl, hbel⟩; replace hbel := Hid.intro hbel)
    all_goals first | omega | skip
    go_ret
    exact ⟨rfl, ((below_alloc w _).alloc (by simp) _)⟩
  by_cases h3 : b < 0
  · rw [decide_eq_false (by omega : ¬ (0 ≤ a ∧ a ≤ A ∧ 0 ≤ b ∧ b ≤ B)), Bool.false_and]
    go_enter Tryd.func43, Tryd.ntmps43
    go_wp2_with (go_at_call 62; refine (inEnds_any _ _ _ _ _ _ _).mono ?_; rintro e w' ⟨rfl, hbel⟩; replace hbel := Hid.intro hbel)
    all_goals first | omega | skip
    go_ret
    exact ⟨rfl, ((below_alloc w _).alloc (by simp) _)⟩
  by_cases h4 : b > B
  · rw [decide_eq_false (by omega : ¬ (0 ≤ a ∧ a ≤ A ∧ 0 ≤ b ∧ b ≤ B)), Bool.false_and]
    go_enter Tryd.func43, Tryd.ntmps43
    go_wp2_with (go_at_call 62; refine (inEnds_any _ _ _ _ _ _ _).mono ?_; rintro e w' ⟨rfl, hbel⟩; replace hbel := Hid.intro hbel)
    all_goals first | omega | skip
    go_ret
    exact ⟨rfl, ((below_alloc w _).alloc (by simp) _)⟩
  rw [decide_eq_true (by omega : 0 ≤ a ∧ a ≤ A ∧ 0 ≤ b ∧ b ≤ B), Bool.true_and]
  by_cases h5 : s = 7
  · rw [decide_eq_false (by omega : ¬ s ≠ 7), Bool.false_or]
    have e5 : ((s : Int) == 7) = true := by simp [h5]
    have e6 : ((s : Int) != 7) = false := by simp [h5]
    clear h5
    go_enter Tryd.func43, Tryd.ntmps43
    go_wp2_with (go_at_call 62; refine (inEnds_any _ _ _ _ _ _ _).mono ?_; rintro e w' ⟨rfl, hbel⟩; replace hbel := Hid.intro hbel)
    all_goals first | omega | skip
    go_ret
    exact ⟨rfl, ((below_alloc w _).alloc (by simp) _).trans (hbel.out.mono (by simp; omega))⟩
  · rw [decide_eq_true h5, Bool.true_or]
    have e5 : ((s : Int) == 7) = false := by simp; omega
    have e6 : ((s : Int) != 7) = true := by simp; omega
    clear h5
    go_enter Tryd.func43, Tryd.ntmps43
    go_wp2_with (go_at_call 62; refine (inEnds_any _ _ _ _ _ _ _).mono ?_; rintro e w' ⟨rfl, hbel⟩; replace hbel := Hid.intro hbel)
    all_goals first | omega | skip
    go_ret
    exact ⟨rfl, ((below_alloc w _).alloc (by simp) _)⟩

def instL (op a b n f : Int) : List Value := [.int .i64 op, .int .i64 a, .int .i64 b, .int .i32 n, .int .i64 f]
theorem inst_cell (w : World) (op a b n f : Int) (j : Nat) : (w.alloc (.cells #[.int .i64 op, .int .i64 a, .int .i64 b, .int .i32 n, .int .i64 f] 34)).cell? ⟨w.heap.size, j, none⟩ = (instL op a b n f).toArray[j]? := cell_block (heap_alloc_new w _) j

/-- what hasNumber reads -/
structure Seven (g s : Nat) (n f A B L M Z : Int) (w : World) : Prop where
  n : w.cell? ⟨g, 3, none⟩ = some (.int .i32 n)
  f : w.cell? ⟨g, 4, none⟩ = some (.int .i64 f)
  a : w.cell? ⟨2, s * 5, none⟩ = some (.int .i64 A)
  b : w.cell? ⟨2, s * 5 + 1, none⟩ = some (.int .i64 B)
  l : w.cell? ⟨2, s * 5 + 2, none⟩ = some (.int .i32 L)
  m : w.cell? ⟨2, s * 5 + 3, none⟩ = some (.int .i32 M)
  z : w.cell? ⟨2, s * 5 + 4, none⟩ = some (.int .i64 Z)
  lt : g < w.heap.size
  two : 2 < w.heap.size
theorem Seven.drew {g s : Nat} {n f A B L M Z : Int} {w : World} (h : Seven g s n f A B L M Z w) : Seven g s n f A B L M Z w.drew := ⟨h.n, h.f, h.a, h.b, h.l, h.m, h.z, h.lt, h.two⟩
theorem Seven.below {g s : Nat} {n f A B L M Z : Int} {w w' : World} (h : Seven g s n f A B L M Z w) (hb : Below w.heap.size w w') : Seven g s n f A B L M Z w' :=
  ⟨(hb.cell (p := ⟨g, 3, none⟩) h.lt).trans h.n, (hb.cell (p := ⟨g, 4, none⟩) h.lt).trans h.f, (hb.cell (p := ⟨2, s * 5, none⟩) h.two).trans h.a, (hb.cell (p := ⟨2, s * 5 + 1, none⟩) h.two).trans h.b, (hb.cell (p := ⟨2, s * 5 + 2, none⟩) h.two).trans h.l, (hb.cell (p := ⟨2, s * 5 + 3, none⟩) h.two).trans h.m, (hb.cell (p := ⟨2, s * 5 + 4, none⟩) h.two).trans h.z, Nat.lt_of_lt_of_le h.lt hb.size, Nat.lt_of_lt_of_le h.two hb.size⟩

/-- has it a form just where its shape has one, and an N that it holds? -/
def numB (n f : Int) (s : Nat) : Bool := if spansB (s : Int) then fitsB n f else decide (f = 0) && (decide (nMin s ≤ n) && decide (n ≤ nMax s))

theorem hasNumber_any (op a b n f : Int) (s : Nat) (hs : s < 14) (w : World) (hT : Tab w) (hn : -2147483648 ≤ n ∧ n ≤ 2147483647) :
    Calls Tryd.prog 44 #[instV op a b n f, .int .i64 (s : Int)] w fun e w' => e = .returned (.bool (numB n f s)) ∧ Below w.heap.size w w' := by
  have q0 := fun o => ((hT.alloc o).sh s hs).1
  have q1 := fun o => ((hT.alloc o).sh s hs).2.1
  have q2 := fun o => ((hT.alloc o).sh s hs).2.2.1
  have q3 := fun o => ((hT.alloc o).sh s hs).2.2.2.1
  have q4 := fun o => ((hT.alloc o).sh s hs).2.2.2.2
  unfold numB
  generalize aMax s = A at *
  generalize bMax s = B at *
  generalize nMin s = L at *
  generalize nMax s = M at *
  generalize sizeAt s = Z at *
  have hsz := hT.size
  clear hT
  generalize hsp : spansB (s : Int) = sp
  cases sp with
  | true =>
    rw [if_pos rfl]
    go_enter Tryd.func44, Tryd.ntmps44
    go_wp2_with (first | (go_at_call 63; refine (spans_any _ _).mono ?_; rintro e w' ⟨rfl, rfl⟩; rw [hsp]) | (go_at_call 64; refine (reaches_any _ _ _ hn).mono ?_; rintro e w' ⟨rfl, rfl⟩))
    all_goals first | omega | skip
    go_ret
    exact ⟨rfl, below_alloc w _⟩
  | false =>
    rw [if_neg (by simp)]
    have c3 := inst_cell w op a b n f 3
    have c4 := inst_cell w op a b n f 4
    simp only [instL, List.getElem?_toArray, List.getElem?_cons_succ, List.getElem?_cons_zero] at c3 c4
    have hbox := below_alloc w (.cells #[.int .i64 op, .int .i64 a, .int .i64 b, .int .i32 n, .int .i64 f] 34)
    have hS : Seven w.heap.size s n f A B L M Z (w.alloc (.cells #[.int .i64 op, .int .i64 a, .int .i64 b, .int .i32 n, .int .i64 f] 34)) := ⟨c3, c4, q0 _, q1 _, q2 _, q3 _, q4 _, by simp, by simp; omega⟩
    by_cases h1 : f = 0
    · subst h1
      rw [decide_eq_true rfl, Bool.true_and]
      go_enter Tryd.func44, Tryd.ntmps44
      go_wp2_with (go_at_call 63; refine (spans_any _ _).mono ?_; rintro e w' ⟨rfl, rfl⟩; rw [hsp])
      clear c3 c4 q0 q1 q2 q3 q4
      generalize w.alloc (.cells #[.int .i64 op, .int .i64 a, .int .i64 b, .int .i32 n, .int .i64 0] 34) = w0 at *
      have hSH := Hid.intro hS
      have hbH := Hid.intro hbox
      obtain ⟨c3, c4, q0, q1, q2, q3, q4, l1, l2⟩ := hS
      clear l1 l2 hbox
      have b0 : (0 : Int) ≤ (s : Int) := by omega
      have b1 : (s : Int) < 14 := by omega
      have b2 : (s : Int) ≤ 14 := by omega
      go_region_held3 (fun w' => w'.cell? ⟨w.heap.size, 3, none⟩ = some (.int .i32 n) ∧ w'.cell? ⟨w.heap.size, 4, none⟩ = some (.int .i64 0) ∧ w'.cell? ⟨2, s * 5, none⟩ = some (.int .i64 A) ∧ w'.cell? ⟨2, s * 5 + 1, none⟩ = some (.int .i64 B) ∧ w'.cell? ⟨2, s * 5 + 2, none⟩ = some (.int .i32 L) ∧ w'.cell? ⟨2, s * 5 + 3, none⟩ = some (.int .i32 M) ∧ w'.cell? ⟨2, s * 5 + 4, none⟩ = some (.int .i64 Z)) (go_keep)
        ((first
          | (go_at_call 62; refine (inEnds_any _ _ _ _ _ _ _).mono ?_; rintro e w1 ⟨rfl, hbel⟩; obtain ⟨d3, d4, p0, p1, p2, p3, p4, l1, l2⟩ := hSH.out.drew.below hbel; clear l1 l2; replace hbel := Hid.intro hbel)))
      all_goals go_wp2_with fail
      all_goals first | omega | skip
      all_goals go_ret
      all_goals exact ⟨rfl, hbH.out.drew.trans (hbel.out.mono hbH.out.size)⟩
    · rw [decide_eq_false h1, Bool.false_and]
      have e1 : (f == 0) = false := by simpa using h1
      go_enter Tryd.func44, Tryd.ntmps44
      go_wp2_with (go_at_call 63; refine (spans_any _ _).mono ?_; rintro e w' ⟨rfl, rfl⟩; rw [hsp])
      clear c3 c4 q0 q1 q2 q3 q4
      generalize w.alloc (.cells #[.int .i64 op, .int .i64 a, .int .i64 b, .int .i32 n, .int .i64 f] 34) = w0 at *
      have hbH := Hid.intro hbox
      obtain ⟨c3, c4, q0, q1, q2, q3, q4, l1, l2⟩ := hS
      clear l1 l2 hbox
      go_region
      all_goals go_wp2_with fail
      all_goals go_ret
      all_goals exact ⟨rfl, hbH.out.drew⟩
end Go.Proofs.YtlchefdddgbohaaDoor
