/- The witness's world; what is laid in it. -/
import Derived.Test.YtogkchgjpflmjaaGreatDoorCards
import Derived.Test.YtogkchgjpflmjaaGreatDoorTie
import Derived.Test.YtogkchgjpflmjaaGreatDoorEnv9
import Derived.WalkKit
import Derived.ProofKit
import Derived.OpenShut
import Derived.ShutString
import Derived.ChangeOld
import Derived.ChangeArms
import Derived.JoinedCond
import Derived.LaidHandle
import Derived.Below
import Derived.Deep.DeepHandedRow
import Derived.Stop.LaidErr
namespace Go.Proofs.YtogkchgjpflmjaaGreatDoor
open Go.ChangeShapes Go.WideShapes Go.ChangeAt Go.RowKit
set_option linter.unusedVariables false
set_option maxRecDepth 100000
def layAt (h : Array Obj) (g : Nat) (cs : Array Value) : Array Obj := h.modify g fun
  | .cells _ t frozen => .cells cs t frozen
  | o => o
def litCells (d : DataW Unit) : Array Value := match d with
  | .agg l => (l.filterMap fun
    | .lit (.int k z) => some (Value.int k z)
    | _ => none).toArray
  | _ => #[]
noncomputable def laidWorld (os : Os) : World :=
  { World.holding Tryz.prog os ⟨#[], #[], []⟩ with heap := layAt (layAt (layAt (layAt (layAt (layAt (World.holding Tryz.prog os ⟨#[], #[], []⟩).heap 0 #[.iface 171 (.agg #[.pointer (some ⟨7, 28, none⟩)])]) 1 (opsT.flatMap opCells).toArray) 3 (shT.flatMap shCells).toArray) 4 (litCells Rows.laid_internal_strconv_uint64pow10)) 5 (litCells Rows.laid_math_bits_deBruijn32tab)) 6 (litCells Rows.laid_math_bits_deBruijn64tab) }
theorem ownKnob_none : ownKnob Tryz.prog.godebug = none := by kernel_rfl
theorem laid_met5 (os : Os) (args : Array Value) : laidMet Tryz.prog laid5 ((laidWorld os).forCall (fun _ _ => 0) ⟨#[], args, []⟩).memory :=
  laidMet_of_run' 8 (by kernel_rfl) (by kernel_rfl)
theorem laid_met (os : Os) (args : Array Value) : laidMetH Tryz.prog laid9 ((laidWorld os).forCall (fun _ _ => 0) ⟨#[], args, []⟩).memory :=
  laidMetH_of_parts (laid_met5 os args) (by kernel_rfl)
end Go.Proofs.YtogkchgjpflmjaaGreatDoor
