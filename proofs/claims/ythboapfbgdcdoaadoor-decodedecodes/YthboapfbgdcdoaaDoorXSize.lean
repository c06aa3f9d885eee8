/- The document's Check and Size. -/
import Derived.Test.YthboapfbgdcdoaaDoorRefC
namespace Go.Proofs.YthboapfbgdcdoaaDoor
open Go.ChangeShapes Go.WideShapes Go.ChangeAt Go.RowKit
set_option linter.unusedVariables false
set_option maxRecDepth 100000

set_option maxHeartbeats 4000000 in
theorem size_any (op f : Int) (s : Nat) (hs : s < 14) (h1 : 1 ≤ s) (hS : shapeN op = (s : Int)) (w : World) (hf : 0 ≤ f ∧ f ≤ 4) (hz : spansB (s : Int) = false → f = 0) :
    Calls Tryd.prog 26 #[.int .i64 op, .int .i64 f] w fun e w' => e = .returned (.int .i64 (sizeAt s + f)) ∧ Below w.heap.size w w' := by
  have hSH := Hid.intro hS
  have hzH := Hid.intro hz
  clear hS hz
  obtain ⟨R, hR⟩ : ∃ R, R = sizeAt s + f := ⟨_, rfl⟩
  rw [← hR]
  have hRH := Hid.intro hR
  clear hR
  rcases lim_cases s hs with rfl | rfl | rfl | rfl | rfl | rfl | rfl | rfl | rfl | rfl | rfl | rfl | rfl | rfl
  · omega
  all_goals
    go_enter Tryd.func26, Tryd.ntmps26
    go_wp2_with (go_at_call 27; refine (shape_any _ _).mono ?_; rintro e w1 ⟨rfl, hb1⟩; rw [hSH.out]; replace hb1 := Hid.intro hb1)
    all_goals first | omega | skip
    all_goals go_ret
    all_goals refine ⟨?_, hb1.out⟩
    all_goals rw [hRH.out]
    all_goals first | (have hzz := hzH.out rfl; subst hzz; rfl) | (refine congrArg (fun z => Ending.returned (Value.int IntKind.i64 z)) ?_; simp only [sizeAt12, sizeAt13])

end Go.Proofs.YthboapfbgdcdoaaDoor
