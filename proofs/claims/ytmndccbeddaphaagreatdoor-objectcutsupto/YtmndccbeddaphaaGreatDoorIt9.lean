/- item's Read of an operation's line. -/
import Derived.Test.YtmndccbeddaphaaGreatDoorIt8
/- Items that are owned, with their terms. -/
namespace Go.Proofs.YtmndccbeddaphaaGreatDoor
open Go.ChangeShapes Go.WideShapes Go.ChangeAt Go.RowKit
set_option linter.unusedVariables false
set_option maxRecDepth 100000

theorem own_keptB {w w' : World} {B : Nat} {e : TypeId} {size : Nat} {v : Value} {n : Nat} {xs : List Value} (h : w.ownsRow B e size v n xs) (hb : Below w.heap.size w w') : w'.ownsRow B e size v n xs :=
  h.kept (grown_of_below hb) (by cases v.ownBlock <;> simp)

/-- the row of some items, each with the slice of its terms -/
def rowI (p : List (Itm × Value)) : List Value := p.flatMap fun q => (itmCells q.1 q.2).toList
theorem rowI_length (p : List (Itm × Value)) : (rowI p).length = p.length * 10 := by
  induction p with
  | nil => rfl
  | cons q p ih => simp [rowI] at ih ⊢; omega

structure ItOwn (lo : Nat) (w : World) (v : Value) (p : List (Itm × Value)) : Prop where
  row : w.ownsRow lo 86 10 v p.length (rowI p)
  each : ∀ q ∈ p, w.ownsRow lo 107 2 q.2 q.1.e.terms.length (rowT q.1.e.terms)

end Go.Proofs.YtmndccbeddaphaaGreatDoor
namespace Go.Proofs.YtmndccbeddaphaaGreatDoor
open Go.ChangeShapes Go.WideShapes Go.ChangeAt Go.RowKit
set_option linter.unusedVariables false
set_option maxRecDepth 100000

theorem blk_lt {w : World} {g : Nat} {o : Obj} (h : w.heap[g]? = some o) : g < w.heap.size := (Array.getElem?_eq_some_iff.1 h).1

end Go.Proofs.YtmndccbeddaphaaGreatDoor
