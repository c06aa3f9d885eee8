/- errors.As at this program's own errors: a number (api.Errno), a refusal of unit's. -/
import Derived.Test.YtmndccbeddaphaaGreatDoorSpec2
import Derived.WalkKit
import Derived.LaidEql
import Derived.Stop.Asserts
import Derived.RowKitTokens
namespace Go.Proofs.YtmndccbeddaphaaGreatDoor
open Go.RowKit Go.Extern.Stop Go.Stop Go.Extern
set_option linter.unusedVariables false
set_option maxRecDepth 100000

theorem typeOf36 (v : Value) (w : World) : (ReflectliteType.typeOf #[.iface 23 v]).run Tryz.prog w = .ok (.iface 167 (.agg #[.pointer (some ⟨6, 23, none⟩)])) w := by kernel_rfl
end Go.Proofs.YtmndccbeddaphaaGreatDoor
