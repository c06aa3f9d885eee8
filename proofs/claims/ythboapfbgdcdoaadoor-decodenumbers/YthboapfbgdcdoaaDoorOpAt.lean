/- The law IsaAsks, walked. -/
import Derived.Test.YthboapfbgdcdoaaDoorQuietB
namespace Go.Proofs.YthboapfbgdcdoaaDoor
open Go.ChangeShapes Go.WideShapes Go.ChangeAt Go.RowKit
set_option linter.unusedVariables false
set_option maxRecDepth 100000

/-- an operation in memory -/
structure OpAt (w : World) (g : Nat) (s : List UInt8) (b h : Int) : Prop where
  s : w.cell? ⟨g, 0, none⟩ = some (.string (str s))
  b : w.cell? ⟨g, 1, none⟩ = some (.int .u8 b)
  h : w.cell? ⟨g, 2, none⟩ = some (.int .i64 h)
  lt : g < w.heap.size
theorem OpAt.drew {w : World} {g : Nat} {s : List UInt8} {b h : Int} (x : OpAt w g s b h) : OpAt w.drew g s b h := ⟨x.s, x.b, x.h, x.lt⟩
theorem OpAt.below {w w' : World} {g : Nat} {s : List UInt8} {b h : Int} (x : OpAt w g s b h) (hb : Below w.heap.size w w') : OpAt w' g s b h :=
  ⟨(hb.cell (p := ⟨g, 0, none⟩) x.lt).trans x.s, (hb.cell (p := ⟨g, 1, none⟩) x.lt).trans x.b, (hb.cell (p := ⟨g, 2, none⟩) x.lt).trans x.h, Nat.lt_of_lt_of_le x.lt hb.size⟩
theorem opAt_new (w : World) (s : List UInt8) (b h : Int) : OpAt (w.alloc (.cells #[.string (str s), .int .u8 b, .int .i64 h] 51)) w.heap.size s b h :=
  ⟨(cell_block (heap_alloc_new w _) 0).trans rfl, (cell_block (heap_alloc_new w _) 1).trans rfl, (cell_block (heap_alloc_new w _) 2).trans rfl, by simp⟩

theorem chain2 {w w1 w2 : World} (a : Below w.heap.size w w1) (b : Below w1.heap.size w1 w2) : Below w.heap.size w w2 := a.trans (b.mono a.size)

end Go.Proofs.YthboapfbgdcdoaaDoor
