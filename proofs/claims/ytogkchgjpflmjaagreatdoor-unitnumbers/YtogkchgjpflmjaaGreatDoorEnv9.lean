/- What the laid variables give. -/
import Derived.Test.YtogkchgjpflmjaaGreatDoorRfe
import Derived.Test.YtogkchgjpflmjaaGreatDoorSay
import Derived.Lib.LaidTab
namespace Go.Proofs.YtogkchgjpflmjaaGreatDoor
open Go.ChangeShapes Go.WideShapes Go.ChangeAt Go.RowKit
set_option linter.unusedVariables false
set_option maxRecDepth 100000
abbrev laid5 : List (String × DataW Unit) := [("math/bits.deBruijn32tab", Rows.laid_math_bits_deBruijn32tab), ("math/bits.deBruijn64tab", Rows.laid_math_bits_deBruijn64tab), ("internal/strconv.uint64pow10", Rows.laid_internal_strconv_uint64pow10), ("spandrel/isa.ops", Rows.laid_spandrel_isa_ops), ("spandrel/isa.shapes", Rows.laid_spandrel_isa_shapes)]
theorem pow_of_laid9 {W : World} (h : laidMetH Tryz.prog laid9 W) : Pow W := by
  have h0 : laidMet Tryz.prog laid5 W := h.1
  have h1 := laidMet.tail (laidMet.tail h0)
  exact Lib.tabIs_of_head (rest := [("spandrel/isa.ops", Rows.laid_spandrel_isa_ops), ("spandrel/isa.shapes", Rows.laid_spandrel_isa_shapes)]) gPow (by kernel_rfl) Tryz.underlying299 (by kernel_rfl) (by kernel_rfl) (by kernel_rfl) h1
theorem env_of_laid {W : World} (h : laidMetH Tryz.prog laid9 W) : Env W := ⟨tab_of_laid9 h, errT_of_laid h, pow_of_laid9 h⟩
end Go.Proofs.YtogkchgjpflmjaaGreatDoor
