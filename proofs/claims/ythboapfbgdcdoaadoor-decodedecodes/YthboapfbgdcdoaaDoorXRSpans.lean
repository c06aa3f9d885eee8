/- The document's Find, Shape, Spans; Ops' rows. -/
import Derived.Test.YthboapfbgdcdoaaDoorRefF
namespace Go.Proofs.YthboapfbgdcdoaaDoor
open Go.ChangeShapes Go.WideShapes Go.ChangeAt Go.RowKit
set_option linter.unusedVariables false
set_option maxRecDepth 100000

theorem refSpans_any (op : Int) (w : World) :
    Calls Tryd.prog 42 #[.int .i64 op] w fun e w' => e = .returned (.bool (spansB (shapeN op))) ∧ Below w.heap.size w w' := by
  generalize hs : shapeN op = s
  by_cases h1 : s = 12
  · subst h1
    go_enter Tryd.func42, Tryd.ntmps42
    go_wp2_with (go_at_call 27; refine (shape_any _ _).mono ?_; rintro e w' ⟨rfl, hbel⟩; rw [hs])
    go_ret
    exact ⟨rfl, hbel⟩
  · have e1 : (s == 12) = false := by simpa using h1
    have hs2 : spansB s = (s == 13) := by simp [spansB, e1]
    rw [hs2]
    go_enter Tryd.func42, Tryd.ntmps42
    go_wp2_with (first | (go_at_call 27; (with_reducible refine (shape_any _ w).mono ?_); rintro e w1 ⟨rfl, hbel⟩; rw [hs]) | (go_at_call 27; refine (shape_any _ _).mono ?_; rintro e w' ⟨rfl, hbel2⟩; rw [hs]))
    go_ret
    exact ⟨rfl, hbel.trans (hbel2.mono hbel.size)⟩

end Go.Proofs.YthboapfbgdcdoaaDoor
