/- The document's registers, Check, Size. -/
import Derived.Test.YthboapfbgdcdoaaDoorLims
import Derived.Test.YthboapfbgdcdoaaDoorRefF
import Derived.Test.YthboapfbgdcdoaaDoorOBase
namespace Go.Proofs.YthboapfbgdcdoaaDoor
open Go.ChangeShapes Go.WideShapes Go.ChangeAt Go.RowKit
set_option linter.unusedVariables false
set_option maxRecDepth 100000

/-- how many registers A and B may name, by shape; 0: none -/
def aLim (s : Nat) : Int := aMax s + (if aMax s = 0 then 0 else 1)
def bLim (s : Nat) : Int := bMax s + (if bMax s = 0 then 0 else 1)

theorem aLim_is : [aLim 0, aLim 1, aLim 2, aLim 3, aLim 4, aLim 5, aLim 6, aLim 7, aLim 8, aLim 9, aLim 10, aLim 11, aLim 12, aLim 13] = [0, 0, 8, 4, 8, 4, 8, 4, 8, 0, 8, 8, 0, 8] := by decide +kernel
theorem bLim_is : [bLim 0, bLim 1, bLim 2, bLim 3, bLim 4, bLim 5, bLim 6, bLim 7, bLim 8, bLim 9, bLim 10, bLim 11, bLim 12, bLim 13] = [0, 0, 0, 0, 8, 4, 4, 8, 0, 0, 0, 0, 0, 0] := by decide +kernel


theorem reg_a (s : Nat) (hs : s < 14) (a : Int) : (0 ≤ a ∧ a ≤ aMax s) ↔ ¬ (a < 0) ∧ ¬ (a ≥ aLim s ∧ (aLim s > 0 ∨ a ≠ 0)) := by
  have h : 0 ≤ aMax s := by
    have : ∀ j : Fin 14, 0 ≤ aMax j.1 := by decide +kernel
    exact this ⟨s, hs⟩
  unfold aLim
  split <;> omega
theorem reg_b (s : Nat) (hs : s < 14) (a : Int) : (0 ≤ a ∧ a ≤ bMax s) ↔ ¬ (a < 0) ∧ ¬ (a ≥ bLim s ∧ (bLim s > 0 ∨ a ≠ 0)) := by
  have h : 0 ≤ bMax s := by
    have : ∀ j : Fin 14, 0 ≤ bMax j.1 := by decide +kernel
    exact this ⟨s, hs⟩
  unfold bLim
  split <;> omega

set_option maxHeartbeats 4000000 in
theorem registers_any (op a b n f : Int) (s : Nat) (hs : s < 14) (hS : shapeN op = (s : Int)) (w : World) :
    Calls Tryd.prog 45 #[instV op a b n f] w fun e w' => e = .returned (.bool (regB a b n s)) ∧ Below w.heap.size w w' := by
  have hI := Hid.intro (inst_new w op a b n f)
  have hb0 := Hid.intro (below_alloc w (.cells #[.int .i64 op, .int .i64 a, .int .i64 b, .int .i32 n, .int .i64 f] 26))
  have hSH := Hid.intro hS
  obtain ⟨R, hR⟩ : ∃ R, R = regB a b n s := ⟨_, rfl⟩
  rw [← hR]
  have hRH := Hid.intro hR
  clear hS hR
  rcases lim_cases s hs with rfl | rfl | rfl | rfl | rfl | rfl | rfl | rfl | rfl | rfl | rfl | rfl | rfl | rfl
  all_goals
    go_enter Tryd.func45, Tryd.ntmps45
    go_wp2_with (go_at_call 27; refine (shape_any _ _).mono ?_; rintro e w1 ⟨rfl, hb1⟩; rw [hSH.out]; have hI1 := Hid.intro (hI.out.below hb1 hI.out.lt); obtain ⟨i0, i1, i2, i3, i4, _⟩ := hI1.out; have hw1 := Hid.intro (chain2 hb0.out hb1); clear hb1)
    all_goals go_ret
    all_goals refine ⟨?_, hw1.out⟩
    all_goals rw [hRH.out]
    all_goals refine congrArg (fun b => Ending.returned (Value.bool b)) ?_
    all_goals rw [Bool.eq_iff_iff]
    all_goals simp [regB, aMax0, aMax1, aMax2, aMax3, aMax4, aMax5, aMax6, aMax7, aMax8, aMax9, aMax10, aMax11, aMax12, aMax13, bMax0, bMax1, bMax2, bMax3, bMax4, bMax5, bMax6, bMax7, bMax8, bMax9, bMax10, bMax11, bMax12, bMax13, nMin0, nMin1, nMin2, nMin3, nMin4, nMin5, nMin6, nMin7, nMin8, nMin9, nMin10, nMin11, nMin12, nMin13, nMax0, nMax1, nMax2, nMax3, nMax4, nMax5, nMax6, nMax7, nMax8, nMax9, nMax10, nMax11, nMax12, nMax13]
    all_goals first | omega | (simp only [bne_iff_ne, ne_eq, bne_eq_false_iff_eq] at *; omega)
end Go.Proofs.YthboapfbgdcdoaaDoor
