/-
  DERIVED. GIVEN WITH THE SEED: THE PROGRAM's TIES (one call each: nine closed facts by the kernel) AND EACH ROW's TIE, after the 31st guide's Derived/Test/Toyas{Tie, Card}.lean. No idea stands in it: it is a product of the set-up. Laid BY PROGRAM, IN A SANDBOX (cutbox-door.mjs). By AI agents, Wed Nov 11 2026. No macro, syntax, notation, axiom, sorry.
-/
import Derived.Test.YtogkchgjpflmjaaGreatDoorRows
import Derived.LaidByTextLater
import Derived.SevenTiedAt
import Derived.LaidSub
import Derived.LaidOnce
namespace Go.Proofs.YtogkchgjpflmjaaGreatDoor
open Go
set_option maxRecDepth 100000
theorem seatTie1 : Tryz.prog.laidByTextLater [("math/bits.deBruijn32tab", Rows.laid_math_bits_deBruijn32tab), ("math/bits.deBruijn64tab", Rows.laid_math_bits_deBruijn64tab), ("internal/strconv.uint64pow10", Rows.laid_internal_strconv_uint64pow10), ("errors.errorType", Rows.laid_errors_errorType), ("spandrel/isa.ops", Rows.laid_spandrel_isa_ops), ("spandrel/isa.shapes", Rows.laid_spandrel_isa_shapes)] [.data, .data, .data, .handle, .data, .data] true :=
  Program.laidByTextLater_by_one 97 8 130 (by kernel_rfl) (by kernel_rfl) (by kernel_rfl) (by kernel_rfl) (by kernel_rfl) (by kernel_rfl) (fun _ _ => by kernel_rfl)
theorem noOwnUnsafe : Tryz.pinned.checked.prog.headLifts.contains "ownunsafe" = false := by kernel_rfl
theorem tie : Tryz.prog.laidByTextLater [("math/bits.deBruijn32tab", Rows.laid_math_bits_deBruijn32tab), ("math/bits.deBruijn64tab", Rows.laid_math_bits_deBruijn64tab), ("internal/strconv.uint64pow10", Rows.laid_internal_strconv_uint64pow10), ("errors.errorType", Rows.laid_errors_errorType), ("spandrel/isa.ops", Rows.laid_spandrel_isa_ops), ("spandrel/isa.shapes", Rows.laid_spandrel_isa_shapes)] [.data, .data, .data, .handle, .data, .data] true :=
  Program.laidByTextLater.sub seatTie1 ["math/bits.deBruijn32tab", "math/bits.deBruijn64tab", "internal/strconv.uint64pow10", "errors.errorType", "spandrel/isa.ops", "spandrel/isa.shapes"] (by kernel_rfl) (by kernel_rfl)
theorem unitNumbers_row_tie : Rows.unitNumbersRow.laidByTextAt .later Tryz.pinned [.data, .data, .data, .handle, .data, .data] true :=
  OpenClaim.laidByTextAt_later rfl rfl tie noOwnUnsafe
theorem unitAssembles_row_tie : Rows.unitAssemblesRow.laidByTextAt .later Tryz.pinned [.data, .data, .data, .handle, .data, .data] true :=
  OpenClaim.laidByTextAt_later rfl rfl tie noOwnUnsafe
theorem unitRight_row_tie : Rows.unitRightRow.laidByTextAt .later Tryz.pinned [.data, .data, .data, .handle, .data, .data] true :=
  OpenClaim.laidByTextAt_later rfl rfl tie noOwnUnsafe
theorem unitFine_row_tie : Rows.unitFineRow.laidByTextAt .later Tryz.pinned [.data, .data, .data, .handle, .data, .data] true :=
  OpenClaim.laidByTextAt_later rfl rfl tie noOwnUnsafe
theorem unitMore_row_tie : Rows.unitMoreRow.laidByTextAt .later Tryz.pinned [.data, .data, .data, .handle, .data, .data] true :=
  OpenClaim.laidByTextAt_later rfl rfl tie noOwnUnsafe
theorem unitKept_row_tie : Rows.unitKeptRow.laidByTextAt .later Tryz.pinned [.data, .data, .data, .handle, .data, .data] true :=
  OpenClaim.laidByTextAt_later rfl rfl tie noOwnUnsafe
theorem unitNumbersUpto_row_tie : Rows.unitNumbersUptoRow.laidByTextAt .later Tryz.pinned [.data, .data, .data, .handle, .data, .data] true :=
  OpenClaim.laidByTextAt_later rfl rfl tie noOwnUnsafe
theorem unitAssemblesUpto_row_tie : Rows.unitAssemblesUptoRow.laidByTextAt .later Tryz.pinned [.data, .data, .data, .handle, .data, .data] true :=
  OpenClaim.laidByTextAt_later rfl rfl tie noOwnUnsafe
theorem unitRightUpto_row_tie : Rows.unitRightUptoRow.laidByTextAt .later Tryz.pinned [.data, .data, .data, .handle, .data, .data] true :=
  OpenClaim.laidByTextAt_later rfl rfl tie noOwnUnsafe
theorem unitFineUpto_row_tie : Rows.unitFineUptoRow.laidByTextAt .later Tryz.pinned [.data, .data, .data, .handle, .data, .data] true :=
  OpenClaim.laidByTextAt_later rfl rfl tie noOwnUnsafe
theorem unitMoreUpto_row_tie : Rows.unitMoreUptoRow.laidByTextAt .later Tryz.pinned [.data, .data, .data, .handle, .data, .data] true :=
  OpenClaim.laidByTextAt_later rfl rfl tie noOwnUnsafe
theorem unitKeptUpto_row_tie : Rows.unitKeptUptoRow.laidByTextAt .later Tryz.pinned [.data, .data, .data, .handle, .data, .data] true :=
  OpenClaim.laidByTextAt_later rfl rfl tie noOwnUnsafe
end Go.Proofs.YtogkchgjpflmjaaGreatDoor
