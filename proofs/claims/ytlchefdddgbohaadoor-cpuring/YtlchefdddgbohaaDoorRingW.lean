/- cpuRing: the walk. -/
import Derived.Test.YtlchefdddgbohaaDoorRnA
import Derived.Test.YtlchefdddgbohaaDoorRnB
import Derived.Test.YtlchefdddgbohaaDoorRnC
namespace Go.Proofs.YtlchefdddgbohaaDoor
open Go.ChangeShapes Go.WideShapes Go.ChangeAt Go.RowKit
set_option linter.unusedVariables false
set_option linter.unusedSimpArgs false
set_option maxRecDepth 100000
theorem cpuRingW (a b : Int) (w : World) (hT : Tab w ∧ Kin w) (ha : -2147483648 ≤ a ∧ a ≤ 2147483647) (hb : -2147483648 ≤ b ∧ b ≤ 2147483647) :
    Calls Tryd.prog 6 #[.int .i32 a, .int .i32 b] w fun e w' => e = .returned (.bool true) ∧ Below w.heap.size w w' := by
  rcases Int.lt_trichotomy a b with h | h | h
  · exact ring_lt a b w hT ha hb h
  · subst h
    exact ring_eq a w hT ha
  · exact ring_gt a b w hT ha hb h
end Go.Proofs.YtlchefdddgbohaaDoor
