/- isa.Ops, Find, Spans, and the document's. -/
import Derived.Test.YtlchefdddgbohaaDoorBase
import Derived.Lib.Strings
namespace Go.Proofs.YtlchefdddgbohaaDoor
open Go.ChangeShapes Go.WideShapes Go.ChangeAt Go.RowKit
set_option linter.unusedVariables false
set_option maxRecDepth 100000

/-- the number of the operation of that name -/
def findN (s : List UInt8) : Int := match opsT.findIdx? (fun x => x.1 == s) with
  | some i => (i : Int) + 1
  | none => 0


theorem nameAt_get (i : Nat) (hi : i < opsT.length) : opsT[i].1 = nameAt i := by
  have h : opsT[i]? = some opsT[i] := List.getElem?_eq_getElem _
  rw [nameAt, List.getD_eq_getElem?_getD, h]
  rfl

theorem findN_hit {s : List UInt8} {i : Nat} (hi : i < 43) (h : nameAt i = s) (hb : ∀ j, j < i → nameAt j ≠ s) : findN s = (i : Int) + 1 := by
  have hl : i < opsT.length := hi
  have : opsT.findIdx? (fun x => x.1 == s) = some i := by
    rw [List.findIdx?_eq_some_iff_getElem]
    refine ⟨hl, ?_, fun j hj => ?_⟩
    · rw [nameAt_get i hl, h]; simp
    · rw [nameAt_get j (by omega)]
      simpa using hb j hj
  rw [findN, this]

theorem findN_none {s : List UInt8} (hb : ∀ j, j < 43 → nameAt j ≠ s) : findN s = 0 := by
  have : opsT.findIdx? (fun x => x.1 == s) = none := by
    rw [List.findIdx?_eq_none_iff]
    intro x hx
    obtain ⟨j, hj, rfl⟩ := List.getElem_of_mem hx
    rw [nameAt_get j hj]
    simpa using hb j hj
  rw [findN, this]

def nm (s : ByteArray) : List UInt8 := s.data.toList
theorem nm_eq (a : List UInt8) (s : ByteArray) : (a == s.toList) = decide (a = nm s) := by
  rw [Lib.toList_data]
  by_cases h : a = nm s
  · rw [decide_eq_true h, h]; simp [nm]
  · rw [decide_eq_false h]; simpa [nm] using h

/-- the shape of an operation's number; 0: there is none -/
def shapeN (op : Int) : Int := if 1 ≤ op ∧ op ≤ 43 then shapeAt (op - 1).toNat else 0

theorem shapeN_some {op : Int} (h : 1 ≤ op ∧ op ≤ 43) : 1 ≤ shapeN op ∧ shapeN op ≤ 13 := by
  rw [shapeN, if_pos h]
  exact shape_range _ (by omega)

theorem atV_eq (op : Int) : atV op = .tuple #[opV (if 1 ≤ op ∧ op ≤ 43 then nameAt (op - 1).toNat else []) (if 1 ≤ op ∧ op ≤ 43 then byteAt (op - 1).toNat else 0) (shapeN op), .bool (decide (1 ≤ op ∧ op ≤ 43))] := by
  unfold atV shapeN
  by_cases h : 1 ≤ op ∧ op ≤ 43
  · simp only [if_pos h, decide_eq_true h]
  · simp only [if_neg h, decide_eq_false h]

/-- At, each part by a name of its own -/
theorem at_parts (op : Int) (w : World) (hT : Tab w) :
    Calls Tryd.prog 42 #[.int .i64 op] w fun e w' => (∃ s b, e = .returned (.tuple #[opV s b (shapeN op), .bool (decide (1 ≤ op ∧ op ≤ 43))])) ∧ Below w.heap.size w w' :=
  (at_any op w hT).mono fun e w' ⟨he, hb⟩ => ⟨⟨_, _, he.trans (congrArg _ (atV_eq op))⟩, hb⟩

end Go.Proofs.YtlchefdddgbohaaDoor
