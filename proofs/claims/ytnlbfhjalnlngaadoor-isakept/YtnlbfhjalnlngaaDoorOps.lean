/- isa.Ops. -/
import Derived.Test.YtnlbfhjalnlngaaDoorBase
import Derived.Deep.WholeRow
namespace Go.Proofs.YtnlbfhjalnlngaaDoor
open Go.ChangeShapes Go.WideShapes Go.ChangeAt Go.RowKit
set_option linter.unusedVariables false
set_option maxRecDepth 100000

def zeroOps : Array Value := ((List.replicate 43 ()).flatMap fun _ => [.string ⟨#[]⟩, .int .u8 0, .int .i64 0]).toArray
theorem info55 : (Tryd.prog.info? 55).map (fun i => (i.zero, i.size)) = some (some (.agg zeroOps), 129) := by kernel_rfl

theorem one_cells : (opsT.flatMap opCells).toArray.all (·.oneCell') = true := by kernel_rfl

theorem ops_any (w : World) (hT : Tab w) :
    Calls Tryd.prog 9 #[] w fun e w' => e = .returned (.slice (some ⟨w.heap.size, 0, none⟩) 43 43) ∧ w' = w.alloc (.cells (opsT.flatMap opCells).toArray 55) := by
  obtain ⟨⟨t, z, h0⟩, _⟩ := hT
  obtain ⟨hz, hsz⟩ := zero_of_info info55
  have hst := run_storeCells_new (P := Tryd.prog) w 55 zeroOps (opsT.flatMap opCells).toArray hsz rfl one_cells
  have hsz2 : (Tryd.prog.info? 55).map (·.size) = some (opsT.flatMap opCells).toArray.size := hsz
  have hcs : (opsT.flatMap opCells).toArray.size = 129 := rfl
  generalize (opsT.flatMap opCells).toArray = cs at *
  generalize zeroOps = Z at *
  have h0H := Hid.intro h0
  have hsH := Hid.intro hsz2
  clear h0 hsz hsz2
  go_enter Tryd.func9, Tryd.ntmps9
  go_wp2_with (refine wpList_load_row rfl 55 _ rfl 0 rfl t cs z _ h0H.out Tryd.underlying55 rfl hsH.out ?_)
  go_ret
  exact ⟨rfl, rfl⟩
end Go.Proofs.YtnlbfhjalnlngaaDoor
