/- expr.Right. -/
import Derived.Test.YtijdjljnppkhmabDoorQuietB
import Derived.Test.YtijdjljnppkhmabDoorNames3
import Derived.Laws.Cover1
namespace Go.Proofs.YtijdjljnppkhmabDoor
open Go.ChangeShapes Go.WideShapes Go.ChangeAt Go.RowKit
set_option linter.unusedVariables false
set_option maxRecDepth 100000

/-- is a term right behind a name? -/
def okT (prev : Option (List UInt8)) (t : Tm) : Bool := decide (t.coef ≠ 0) && (legB (str t.name) && (match prev with | none => true | some p => nlt p t.name))

def rightF (prev : Option (List UInt8)) : List Tm → Bool
  | [] => true
  | t :: r => okT prev t && rightF (some t.name) r

/-- the name ahead of place i -/
def prevOf (ts : List Tm) : Nat → Option (List UInt8)
  | 0 => none
  | k + 1 => (ts[k]?).map (·.name)

def rightAt (ts : List Tm) (i : Nat) : Bool := rightF (prevOf ts i) (ts.drop i)

theorem rightAt_step (ts : List Tm) (i : Nat) (t : Tm) (ht : ts[i]? = some t) : rightAt ts i = (okT (prevOf ts i) t && rightAt ts (i + 1)) := by
  unfold rightAt
  rw [drop_at ts i t ht, rightF]
  congr 1
  simp [prevOf, ht]

theorem rightAt_end (ts : List Tm) : rightAt ts ts.length = true := by
  unfold rightAt
  rw [List.drop_length]
  rfl

theorem leq_nlt (p t : List UInt8) : (Op.bytesLess t p || t == p) = !nlt p t := by
  have h0 : Op.bytesLess t p = nlt t p := rfl
  rw [h0]
  rcases nlt_tri p t with h | h | h
  · rw [h, nlt_asymm h]
    have := nlt_ne h
    simp
    exact fun e => this e.symm
  · subst h
    rw [nlt_irrefl]
    simp
  · rw [h, nlt_asymm h]
    rfl

theorem below_undrew {w w' : World} (h : Below w.drew.heap.size w.drew w') : Below w.heap.size w w' := ⟨h.os, h.tape, h.output, h.size, h.block⟩

theorem str_size (l : List UInt8) : (str l).size = l.length := by simp [str, ByteArray.size]

end Go.Proofs.YtijdjljnppkhmabDoor
