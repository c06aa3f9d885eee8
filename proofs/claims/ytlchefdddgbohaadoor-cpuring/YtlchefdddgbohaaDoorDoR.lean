/- cpu.do: what is reckoned: bounds. -/
import Derived.Test.YtlchefdddgbohaaDoorCl
namespace Go.Proofs.YtlchefdddgbohaaDoor
open Go.ChangeShapes Go.WideShapes Go.ChangeAt Go.RowKit
set_option linter.unusedVariables false
set_option linter.unusedSimpArgs false
set_option maxRecDepth 100000
section
variable {ks : Nat → Prop} {w : World} {p : Nat} {s : St}
theorem wrap32_rb (x : Int) : -2147483648 ≤ wrap32 x ∧ wrap32 x ≤ 2147483647 := by
  unfold wrap32
  omega
theorem wrap_is (x : Int) : IntKind.i32.wrap x = wrap32 x := by rw [IntKind.wrap_i32, wrap32]
theorem bits_rb (o : BinOp) (x y : Int) : -2147483648 ≤ bits o .i32 x y ∧ bits o .i32 x y ≤ 2147483647 := by
  unfold bits
  dsimp only
  rw [wrap_is]
  exact wrap32_rb _
theorem ite_rb {c : Prop} [Decidable c] {x y : Int} (hx : -2147483648 ≤ x ∧ x ≤ 2147483647) (hy : -2147483648 ≤ y ∧ y ≤ 2147483647) : -2147483648 ≤ (if c then x else y) ∧ (if c then x else y) ≤ 2147483647 := by
  split
  · exact hx
  · exact hy
theorem reckN_rb (op : Int) {a b : Int} (ha : -2147483648 ≤ a ∧ a ≤ 2147483647) (hb : -2147483648 ≤ b ∧ b ≤ 2147483647) : -2147483648 ≤ reckN op a b ∧ reckN op a b ≤ 2147483647 := by
  unfold reckN
  exact ite_rb (wrap32_rb _) (ite_rb (bits_rb _ _ _) (ite_rb hb (ite_rb (wrap32_rb _) (ite_rb (wrap32_rb _) (ite_rb (wrap32_rb _) (ite_rb (bits_rb _ _ _) (ite_rb (bits_rb _ _ _) (ite_rb (bits_rb _ _ _) (ite_rb (wrap32_rb _) (ite_rb (wrap32_rb _) (ite_rb (ite_rb (by omega) (by omega)) (ite_rb (ite_rb (by omega) (by omega)) (by omega)))))))))))))
end
end Go.Proofs.YtlchefdddgbohaaDoor
