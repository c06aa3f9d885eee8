/- The law IsaAsks, walked. -/
import Derived.Test.YthboapfbgdcdoaaDoorLen
import Derived.Deep.QuietTactic
import Derived.BigQuiet
import Derived.WalkSmall
import Derived.WalkSpells
/- A region that draws its order, whose operations only read, and whose callees leave what was there as it was: walked once. -/
namespace Go.Proofs.YthboapfbgdcdoaaDoor
open Go.ChangeShapes Go.WideShapes Go.ChangeAt Go.RowKit
set_option linter.unusedVariables false
set_option maxRecDepth 100000

/-- a world in which all that was in w is as it was -/
structure BelowOf (w : World) where
  wd : World
  h : Below w.heap.size w wd

instance {w : World} : Inhabited (BelowOf w) := ⟨⟨w, Below.refl _ _⟩⟩

theorem BelowOf.cell {w : World} (p : BelowOf w) {a : Addr} {v : Value} (ha : a.block < w.heap.size) (h : w.cell? a = some v) : p.wd.cell? a = some v := by rw [p.h.cell ha]; exact h

theorem wp_region_quiet_below {P : Program} {id : Nat} {Q : Exit → Act → World → Prop} {a : Act} {w : World} {l : List Oper} (hm : P.follows .mixedOrders = true) (hB : Region.lexB .any l.toArray = true)
    (h : wpQuiet P l.toArray (fun w' => ∃ p : BelowOf w, w' = p.wd) (fun a' => ∀ w', (∃ p : BelowOf w, w' = p.wd) → Q .normal a' w') l a) : (Code.region id l.toArray true).wp P Q a w :=
  wp_region_quiet (C := fun w' => ∃ p : BelowOf w, w' = p.wd) hm hB ⟨⟨w.drew, (Below.refl _ _).drew⟩, rfl⟩ (by simpa using h)

/-- an operation that is not wanted -/
theorem wpQuiet_skip {P : Program} {ops : Array Oper} {C : World → Prop} {Q : Act → Prop} {a : Act} {o : Oper} {rest : List Oper} (h : Region.wanted o (yielded ops a.tmps) = false) (k : wpQuiet P ops C Q rest (a.put o.dst undef)) : wpQuiet P ops C Q (o :: rest) a := by
  unfold wpQuiet
  rw [if_neg (by rw [h]; decide)]
  exact k

/-- a callee's contract, met in such a world -/
theorem below_calls {P : Program} {f : FuncId} {args : Array Value} {w : World} {p : BelowOf w} {v : Value}
    (h : Calls P f args p.wd fun e w' => e = .returned v ∧ Below p.wd.heap.size p.wd w') : Calls P f args p.wd fun e w'' => e = .returned v ∧ ∃ p' : BelowOf w, w'' = p'.wd :=
  h.mono fun _ w' ⟨he, hb⟩ => ⟨he, ⟨w', p.h.trans (hb.mono p.h.size)⟩, rfl⟩
end Go.Proofs.YthboapfbgdcdoaaDoor
namespace Go.Proofs.YthboapfbgdcdoaaDoor
open Go.ChangeShapes Go.WideShapes Go.ChangeAt Go.RowKit
set_option linter.unusedVariables false
set_option maxRecDepth 100000

/-- an operation in memory -/
structure OpAt (w : World) (g : Nat) (s : List UInt8) (b h : Int) : Prop where
  s : w.cell? ⟨g, 0, none⟩ = some (.string (str s))
  b : w.cell? ⟨g, 1, none⟩ = some (.int .u8 b)
  h : w.cell? ⟨g, 2, none⟩ = some (.int .i64 h)
  lt : g < w.heap.size
theorem OpAt.drew {w : World} {g : Nat} {s : List UInt8} {b h : Int} (x : OpAt w g s b h) : OpAt w.drew g s b h := ⟨x.s, x.b, x.h, x.lt⟩
theorem OpAt.below {w w' : World} {g : Nat} {s : List UInt8} {b h : Int} (x : OpAt w g s b h) (hb : Below w.heap.size w w') : OpAt w' g s b h :=
  ⟨(hb.cell (p := ⟨g, 0, none⟩) x.lt).trans x.s, (hb.cell (p := ⟨g, 1, none⟩) x.lt).trans x.b, (hb.cell (p := ⟨g, 2, none⟩) x.lt).trans x.h, Nat.lt_of_lt_of_le x.lt hb.size⟩
theorem opAt_new (w : World) (s : List UInt8) (b h : Int) : OpAt (w.alloc (.cells #[.string (str s), .int .u8 b, .int .i64 h] 51)) w.heap.size s b h :=
  ⟨(cell_block (heap_alloc_new w _) 0).trans rfl, (cell_block (heap_alloc_new w _) 1).trans rfl, (cell_block (heap_alloc_new w _) 2).trans rfl, by simp⟩

theorem chain2 {w w1 w2 : World} (a : Below w.heap.size w w1) (b : Below w1.heap.size w1 w2) : Below w.heap.size w w2 := a.trans (b.mono a.size)

end Go.Proofs.YthboapfbgdcdoaaDoor
