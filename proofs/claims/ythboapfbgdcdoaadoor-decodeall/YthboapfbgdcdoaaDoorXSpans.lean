/- isa.Ops, Find, Spans, and the document's. -/
import Derived.Test.YthboapfbgdcdoaaDoorLen
namespace Go.Proofs.YthboapfbgdcdoaaDoor
open Go.ChangeShapes Go.WideShapes Go.ChangeAt Go.RowKit
set_option linter.unusedVariables false
set_option maxRecDepth 100000

theorem spansOp_any (op : Int) (w : World) (hT : Tab w) :
    Calls Tryd.prog 50 #[.int .i64 op] w fun e w' => e = .returned (.bool (spansB (shapeN op))) ∧ Below w.heap.size w w' := by
  by_cases h : 1 ≤ op ∧ op ≤ 43
  · have hd : decide (1 ≤ op ∧ op ≤ 43) = true := decide_eq_true h
    generalize hb : decide (1 ≤ op ∧ op ≤ 43) = B at *
    subst hd
    go_enter Tryd.func50, Tryd.ntmps50
    go_wp2_with (first | (go_at_call 18; refine (at_parts _ _ hT).mono ?_; rintro e w' ⟨⟨s, b, rfl⟩, hbel⟩; rw [hb]) | (go_at_call 52; refine (spans_any _ _).mono ?_; rintro e w' ⟨rfl, rfl⟩))
    go_ret
    exact ⟨rfl, (hbel.alloc hbel.size _)⟩
  · have hd : decide (1 ≤ op ∧ op ≤ 43) = false := decide_eq_false h
    have hs : spansB (shapeN op) = false := by rw [shapeN, if_neg h]; rfl
    generalize hb : decide (1 ≤ op ∧ op ≤ 43) = B at *
    subst hd
    rw [hs]
    go_enter Tryd.func50, Tryd.ntmps50
    go_wp2_with (first | (go_at_call 18; refine (at_parts _ _ hT).mono ?_; rintro e w' ⟨⟨s, b, rfl⟩, hbel⟩; rw [hb]) | (go_at_call 52; refine (spans_any _ _).mono ?_; rintro e w' ⟨rfl, rfl⟩))
    go_ret
    exact ⟨rfl, (hbel.alloc hbel.size _)⟩
end Go.Proofs.YthboapfbgdcdoaaDoor
