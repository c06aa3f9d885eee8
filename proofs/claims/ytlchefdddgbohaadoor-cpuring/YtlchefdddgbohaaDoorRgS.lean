/- what the laws over r1 and r2 share. -/
import Derived.Test.YtlchefdddgbohaaDoorTwo
import Derived.Test.YtlchefdddgbohaaDoorKn
import Derived.Test.YtlchefdddgbohaaDoorBtN
namespace Go.Proofs.YtlchefdddgbohaaDoor
open Go.ChangeShapes Go.WideShapes Go.ChangeAt Go.RowKit
set_option linter.unusedVariables false
set_option linter.unusedSimpArgs false
set_option maxRecDepth 100000
section
variable {w0 : World} {p : Nat}
theorem fresh_nil (w : World) : Calls Tryd.prog 10 #[.slice none 0 0] w fun e w' => ∃ p, e = .returned (.tuple #[.pointer (some ⟨p, 0, none⟩), .bool true]) ∧ R12 w w' p 0 0 :=
  (fresh_any none 0 [] (by simp) (by simp) (fun _ => rfl) w (.inl ⟨rfl, rfl, rfl⟩)).mono fun e w' ⟨p, he, h⟩ => ⟨p, he, _, h, rfl, rfl⟩
theorem known_r (hT : Tab w0 ∧ Kin w0) {w : World} {x y : Int} (h : R12 w0 w p x y) : Calls Tryd.prog 17 #[] w fun e w' => e = .returned (.bool true) ∧ R12 w0 w' p x y :=
  (known_any w (h.tabs hT)).mono fun e w' ⟨he, hb⟩ => ⟨he, h.below hb⟩
end
end Go.Proofs.YtlchefdddgbohaaDoor
