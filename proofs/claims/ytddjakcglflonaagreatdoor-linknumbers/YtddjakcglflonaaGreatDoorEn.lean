/- The tables that the evaluator runs by; the functions whose word is known; the witness's world. -/
import Derived.Test.YtddjakcglflonaaGreatDoorTb
import Derived.Test.YtddjakcglflonaaGreatDoorCards
import Derived.Test.YtddjakcglflonaaGreatDoorTie
import Derived.WalkKit
import Derived.ProofKit
import Derived.OpenShut
import Derived.ShutString
import Derived.ChangeOld
import Derived.ChangeArms
import Derived.JoinedCond
import Derived.LaidHandle
import Derived.Deep.DeepHandedRow
namespace Go.Proofs.YtddjakcglflonaaGreatDoor
open Go.ChangeShapes Go.WideShapes Go.ChangeAt Go.RowKit Go.Ev
set_option linter.unusedVariables false
set_option maxRecDepth 1000000

noncomputable def TY : Ty := ⟨Tr.ofL Tryz.prog.types.toList 0 .lf, [25, 40, 66, 74, 78, 103, 108, 139, 228, 248, 249, 256, 52]⟩
noncomputable def FN : Tr Func := Tr.ofL Tryz.prog.funcs.toList 0 .lf
theorem get_list {α : Type} {l : List α} {k : Nat} {x : α} (hl : Nat.blt l.length 1000000 = true) (h : (Tr.ofL l 0 .lf).get k = some x) : l[k]? = some x := by
  rw [Nat.blt_eq] at hl
  rw [Tr.get_ofL l 0 .lf k (by omega)] at h
  by_cases c : 0 ≤ k ∧ k < 0 + l.length
  · rw [if_pos c] at h; exact h
  · rw [if_neg c] at h; cases h
theorem tyOK : TyOK Tryz.prog TY := ⟨fun t i h => by
  have h1 := get_list (by decide +kernel) h
  rw [Array.getElem?_toList] at h1
  have h2 := (Array.getElem?_eq_some_iff.1 h1).1
  show Tables.info? Tryz.prog.toTables t = some i
  unfold Tables.info?
  exact (if_pos h2).trans h1, fun t ht => by
  have h3 : (TY.cm).all (EqT Tryz.prog) = true := by decide +kernel
  exact List.all_eq_true.1 h3 t ht⟩
theorem fnOK : FnOK Tryz.prog FN := fun f fn h => by
  have h1 := get_list (by decide +kernel) h
  have h2 := List.mem_of_getElem? h1
  rw [Array.getElem?_toList] at h1
  refine ⟨h1, ?_⟩
  have h3 : Tryz.prog.funcs.toList.all (fun fn => !(fn.name == "runtime.NumGoroutine")) = true := by decide +kernel
  have h4 := List.all_eq_true.1 h3 fn h2
  simpa using h4

def layAt (h : Array Obj) (g : Nat) (cs : Array Value) : Array Obj := h.modify g fun
  | .cells _ t frozen => .cells cs t frozen
  | o => o
def litCells (d : DataW Unit) : Array Value := match d with
  | .agg l => (l.filterMap fun
    | .lit (.int k z) => some (Value.int k z)
    | _ => none).toArray
  | _ => #[]
def errCells (d : DataW Unit) : Array Value := match d with
  | .iface _ (.ptr (.agg [.lit (.string s)])) => #[.string ⟨s.toArray⟩]
  | _ => #[]
/-- the heap ahead of what is laid -/
noncomputable def heap0 (os : Os) : Array Obj := (World.holding Tryz.prog os ⟨#[], #[], []⟩).heap
/-- a world for the witness: the variables hold what is laid -/
noncomputable def laidWorld (os : Os) : World :=
  { World.holding Tryz.prog os ⟨#[], #[], []⟩ with heap := ((layAt (layAt (layAt (layAt (layAt (layAt (layAt (heap0 os) 3 #[.iface 340 (.pointer (some ⟨(heap0 os).size, 0, none⟩))]) 4 #[.iface 340 (.pointer (some ⟨(heap0 os).size + 1, 0, none⟩))]) 0 (opsT.flatMap opCells).toArray) 5 (shT.flatMap shCells).toArray) 2 (litCells Rows.laid_internal_strconv_uint64pow10)) 6 (litCells Rows.laid_math_bits_deBruijn32tab)) 7 (litCells Rows.laid_math_bits_deBruijn64tab)).push (.cells (errCells Rows.laid_strconv_ErrSyntax) 342)).push (.cells (errCells Rows.laid_strconv_ErrRange) 342) }

theorem ownKnob_none : ownKnob Tryz.prog.godebug = none := by kernel_rfl
theorem laid_met (os : Os) (args : Array Value) : laidMetH Tryz.prog laid7 ((laidWorld os).forCall (fun _ _ => 0) ⟨#[], args, []⟩).memory :=
  (show laidMet Tryz.prog laid7 ((laidWorld os).forCall (fun _ _ => 0) ⟨#[], args, []⟩).memory from laidMet_of_run' 8 (by kernel_rfl) (by kernel_rfl))
end Go.Proofs.YtddjakcglflonaaGreatDoor
