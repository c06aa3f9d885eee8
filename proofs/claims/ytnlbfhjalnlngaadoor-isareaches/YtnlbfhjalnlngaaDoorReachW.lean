/- The law IsaReaches, walked. -/
import Derived.Test.YtnlbfhjalnlngaaDoorLen
namespace Go.Proofs.YtnlbfhjalnlngaaDoor
open Go.ChangeShapes Go.WideShapes Go.ChangeAt Go.RowKit
set_option linter.unusedVariables false
set_option maxRecDepth 100000

theorem reaches_law (n : Int) (w : World) (hT : Tab w) (hn : -2147483648 ≤ n ∧ n ≤ 2147483647) :
    Calls Tryd.prog 7 #[.int .i32 n] w fun e w' => e = .returned (.bool true) ∧ Below w.heap.size w w' := by
  have hTH := Hid.intro hT
  have f4 : fitsB n 4 = true := rfl
  have f0 : fitsB n 0 = false := rfl
  have f3 : fitsB n 3 = false := rfl
  by_cases h1 : -128 ≤ n
  · by_cases h2 : n < 128
    · have f1 : fitsB n 1 = true := by simp [fitsB]; omega
      have f2 : fitsB n 2 = true := by simp [fitsB]; omega
      have hnH := Hid.intro hn
      clear hT hn
      go_enter Tryd.func7, Tryd.ntmps7
      go_wp2_with (first | (go_at_call 20; refine (reaches_any _ _ _ hnH.out).mono ?_; rintro e w1 ⟨rfl, rfl⟩) | (go_at_call 16; refine (known_any _ hTH.out).mono ?_; rintro e w2 ⟨rfl, hb2⟩))
      all_goals go_ret
      all_goals exact ⟨by first | rfl | (simp only [dd]; rfl), hb2⟩
    · have f1 : fitsB n 1 = false := by simp [fitsB]; omega
      have dd : decide (n < 128) = false := decide_eq_false h2
      have hnH := Hid.intro hn
      clear hT hn
      go_enter Tryd.func7, Tryd.ntmps7
      go_wp2_with (first | (go_at_call 20; refine (reaches_any _ _ _ hnH.out).mono ?_; rintro e w1 ⟨rfl, rfl⟩) | (go_at_call 16; refine (known_any _ hTH.out).mono ?_; rintro e w2 ⟨rfl, hb2⟩))
      all_goals go_ret
      all_goals exact ⟨by first | rfl | (simp only [dd]; rfl), hb2⟩
  · have f1 : fitsB n 1 = false := by simp [fitsB]; omega
    have hnH := Hid.intro hn
    clear hT hn
    go_enter Tryd.func7, Tryd.ntmps7
    go_wp2_with (first | (go_at_call 20; refine (reaches_any _ _ _ hnH.out).mono ?_; rintro e w1 ⟨rfl, rfl⟩) | (go_at_call 16; refine (known_any _ hTH.out).mono ?_; rintro e w2 ⟨rfl, hb2⟩))
    all_goals go_ret
    all_goals exact ⟨by first | rfl | (simp only [dd]; rfl), hb2⟩
end Go.Proofs.YtnlbfhjalnlngaaDoor
