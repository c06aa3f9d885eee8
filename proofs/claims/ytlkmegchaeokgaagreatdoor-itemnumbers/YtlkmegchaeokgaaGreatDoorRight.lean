/- expr.Right. -/
import Derived.Test.YtlkmegchaeokgaaGreatDoorQuietB
import Derived.Test.YtlkmegchaeokgaaGreatDoorNames3
import Derived.Laws.Cover1
namespace Go.Proofs.YtlkmegchaeokgaaGreatDoor
open Go.ChangeShapes Go.WideShapes Go.ChangeAt Go.RowKit
set_option linter.unusedVariables false
set_option maxRecDepth 100000
theorem str_size (l : List UInt8) : (str l).size = l.length := by simp [str, ByteArray.size]
end Go.Proofs.YtlkmegchaeokgaaGreatDoor
