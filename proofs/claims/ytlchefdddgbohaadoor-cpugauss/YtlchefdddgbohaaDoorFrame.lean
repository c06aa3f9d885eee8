/- How arguments are opened; the witness's world. -/
import Derived.Test.YtlchefdddgbohaaDoorCards
import Derived.Test.YtlchefdddgbohaaDoorTie
import Derived.Test.YtlchefdddgbohaaDoorTab
import Derived.WalkKit
import Derived.ProofKit
import Derived.OpenShut
import Derived.ShutString
import Derived.ChangeOld
import Derived.ChangeArms
import Derived.Below
import Derived.Deep.DeepHandedRow
import Derived.Stop.LaidErr
namespace Go.Proofs.YtlchefdddgbohaaDoor
open Go.ChangeShapes Go.WideShapes Go.ChangeAt Go.RowKit
set_option linter.unusedVariables false
set_option maxRecDepth 100000

def layAt (h : Array Obj) (g : Nat) (cs : Array Value) : Array Obj := h.modify g fun
  | .cells _ t frozen => .cells cs t frozen
  | o => o

/-- a world for the witness: the tables hold what is laid -/
noncomputable def laidWorld (os : Os) : World :=
  { World.holding Tryd.prog os ⟨#[], #[], []⟩ with heap := layAt (layAt (layAt (World.holding Tryd.prog os ⟨#[], #[], []⟩).heap 1 (opsT.flatMap opCells).toArray) 2 (shT.flatMap shCells).toArray) 0 (kindsT.map fun k => Value.int .i64 k).toArray }

theorem ownKnob_none : ownKnob Tryd.prog.godebug = none := by kernel_rfl
theorem laidOut : laidOutB Tryd.prog = true := by kernel_rfl
theorem cells37 : Tryd.prog.cellsOf 34 = 5 := by kernel_rfl

theorem laid_met (os : Os) (args : Array Value) : laidMet Tryd.prog [("spandrel/isa.ops", Rows.laid_spandrel_isa_ops), ("spandrel/isa.shapes", Rows.laid_spandrel_isa_shapes), ("spandrel/cpu.kinds", Rows.laid_spandrel_cpu_kinds)] ((laidWorld os).forCall (fun _ _ => 0) ⟨#[], args, []⟩).memory :=
  laidMet_of_run' 8 (by kernel_rfl) (by kernel_rfl)

theorem open_inst {H : Type} {enc : TypeId × Value → H} {W : World} {base : Nat} {v : Value} {d : DataW H} {p : List MemPlace}
    (hval : Value.okWide Tryd.prog W .any base 34 v) (h : DataW.Trod enc Tryd.prog W 0 (fun _ => true) true 34 v d p) :
    ∃ op a b n f, v = .agg #[.int .i64 op, .int .i64 a, .int .i64 b, .int .i32 n, .int .i64 f] ∧ (-9223372036854775808 ≤ op ∧ op ≤ 9223372036854775807) ∧ (-2147483648 ≤ n ∧ n ≤ 2147483647) ∧ (-9223372036854775808 ≤ f ∧ f ≤ 9223372036854775807) := by
  obtain ⟨cs, rfl, hcs⟩ := okWide_struct Tryd.underlying34 hval
  rw [cells37] at hcs
  obtain ⟨fuel, hf⟩ := h
  obtain ⟨y0, y1, y2, y3, y4, n, hx, hl, t0, t1, t2, t3, t4⟩ := trod_struct5 Tryd.underlying34 hf
  obtain ⟨cs⟩ := cs
  obtain ⟨c0, c1, c2, c3, c4, rfl⟩ := list5 (by simpa using hcs)
  simp only [Value.cells, cells3, cells21, List.drop, List.take] at t0 t1 t2 t3 t4
  obtain ⟨z0, e0, _, w0⟩ := DataW.trod_int Tryd.underlying3 t0
  obtain ⟨z1, e1, _, w1⟩ := DataW.trod_int Tryd.underlying3 t1
  obtain ⟨z2, e2, _, w2⟩ := DataW.trod_int Tryd.underlying3 t2
  obtain ⟨z3, e3, _, w3⟩ := DataW.trod_int Tryd.underlying21 t3
  obtain ⟨z4, e4, _, w4⟩ := DataW.trod_int Tryd.underlying3 t4
  simp only [List.cons.injEq, and_true] at e0 e1 e2 e3 e4
  subst e0 e1 e2 e3 e4
  exact ⟨z0, z1, z2, z3, z4, rfl, bounds_i64 w0, bounds_i32 w3, bounds_i64 w4⟩
end Go.Proofs.YtlchefdddgbohaaDoor
