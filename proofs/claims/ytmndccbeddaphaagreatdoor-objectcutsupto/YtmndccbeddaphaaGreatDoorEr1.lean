/- errors.As at this program's own errors: a number (api.Errno), a refusal of unit's. -/
import Derived.Test.YtmndccbeddaphaaGreatDoorNum
import Derived.Test.YtmndccbeddaphaaGreatDoorRows
import Derived.WalkKit
import Derived.ProofKit
import Derived.OpenShut
import Derived.Below
import Derived.Handy
import Derived.Lib.LaidTab
import Derived.Stop.LaidErr
import Derived.Deep.Strs
import Derived.LaidEql
import Derived.Stop.Asserts
import Derived.RowKitTokens
/- The two tables of isa as lists; what a world holds that has them. -/
namespace Go.Proofs.YtmndccbeddaphaaGreatDoor
open Go.ChangeShapes Go.WideShapes Go.ChangeAt Go.RowKit
set_option linter.unusedVariables false
set_option maxRecDepth 100000

abbrev istr (l : List UInt8) : ByteArray := ⟨l.toArray⟩

/-- the operations: name, first byte, shape -/
def opsT : List (List UInt8 × Int × Int) := [([110, 111, 112], 0, 1), ([104, 97, 108, 116], 1, 1), ([114, 101, 116], 2, 1), ([112, 114, 105, 110, 116], 3, 2), ([105, 110], 4, 2), ([112, 117, 115, 104], 5, 2), ([112, 111, 112], 6, 2), ([106, 114], 7, 2), ([110, 101, 103], 8, 2), ([110, 111, 116], 9, 2), ([122, 116, 117, 114, 110], 10, 3), ([122, 99, 111, 110, 106], 11, 3), ([109, 111, 118], 16, 4), ([97, 100, 100], 17, 4), ([115, 117, 98], 18, 4), ([109, 117, 108], 19, 4), ([100, 105, 118], 20, 4), ([97, 110, 100], 21, 4), ([111, 114], 22, 4), ([120, 111, 114], 23, 4), ([115, 104, 108], 24, 4), ([115, 104, 114], 25, 4), ([108, 116], 26, 4), ([101, 113], 27, 4), ([108, 100, 98], 28, 4), ([108, 100, 119], 29, 4), ([108, 100, 109], 30, 4), ([115, 116, 109], 31, 4), ([122, 109, 111, 118], 32, 5), ([122, 97, 100, 100], 33, 5), ([122, 115, 117, 98], 34, 5), ([122, 109, 117, 108], 35, 5), ([122, 114, 101], 36, 6), ([122, 105, 109], 37, 6), ([122, 115, 101, 116], 38, 7), ([108, 105, 115], 48, 8), ([116, 114, 97, 112], 49, 9), ([108, 105], 50, 10), ([108, 100, 112], 51, 11), ([106, 109, 112], 64, 12), ([99, 97, 108, 108], 67, 12), ([106, 122], 70, 13), ([106, 110, 122], 73, 13)]
/-- the limits by shape -/
def shT : List (Int × Int × Int × Int × Int) := [(0, 0, 0, 0, 0), (0, 0, 0, 0, 1), (7, 0, 0, 0, 2), (3, 0, 0, 0, 2), (7, 7, 0, 0, 2), (3, 3, 0, 0, 2), (7, 3, 0, 0, 2), (3, 7, 0, 7, 3), (7, 0, -128, 127, 3), (0, 0, 0, 255, 2), (7, 0, -2147483648, 2147483647, 6), (7, 0, 0, 4095, 4), (0, 0, 0, 0, 1), (7, 0, 0, 0, 2)]

def opCells (x : List UInt8 × Int × Int) : List Value := [.string (istr x.1), .int .u8 x.2.1, .int .i64 x.2.2]
def shCells (x : Int × Int × Int × Int × Int) : List Value := [.int .i64 x.1, .int .i64 x.2.1, .int .i32 x.2.2.1, .int .i32 x.2.2.2.1, .int .i64 x.2.2.2.2]

def nameAt (i : Nat) : List UInt8 := (opsT.getD i ([], 0, 0)).1
def byteAt (i : Nat) : Int := (opsT.getD i ([], 0, 0)).2.1
def shapeAt (i : Nat) : Int := (opsT.getD i ([], 0, 0)).2.2
def aMax (i : Nat) : Int := (shT.getD i (0, 0, 0, 0, 0)).1
def bMax (i : Nat) : Int := (shT.getD i (0, 0, 0, 0, 0)).2.1
def nMin (i : Nat) : Int := (shT.getD i (0, 0, 0, 0, 0)).2.2.1
def nMax (i : Nat) : Int := (shT.getD i (0, 0, 0, 0, 0)).2.2.2.1
def sizeAt (i : Nat) : Int := (shT.getD i (0, 0, 0, 0, 0)).2.2.2.2

theorem flat_at {α β : Type} (f : α → List β) (k : Nat) (hf : ∀ x, (f x).length = k) : ∀ (l : List α) (i j : Nat) (x : α), l[i]? = some x → j < k → (l.flatMap f)[i * k + j]? = (f x)[j]?
  | [], i, j, x, h, hj => by simp at h
  | y :: l, 0, j, x, h, hj => by
    simp only [List.getElem?_cons_zero, Option.some.injEq] at h
    subst h
    rw [List.flatMap_cons, Nat.zero_mul, Nat.zero_add, List.getElem?_append_left (by rw [hf]; exact hj)]
  | y :: l, i + 1, j, x, h, hj => by
    rw [List.flatMap_cons, List.getElem?_append_right (by rw [hf, Nat.succ_mul]; omega), hf, show (i + 1) * k + j - k = i * k + j by rw [Nat.succ_mul]; omega]
    exact flat_at f k hf l i j x (by simpa using h) hj

/-- what the tables hold -/
def Tab (w : World) : Prop := (∃ t z, w.heap[0]? = some (.cells (opsT.flatMap opCells).toArray t z)) ∧ ∃ t z, w.heap[2]? = some (.cells (shT.flatMap shCells).toArray t z)

theorem Tab.size {w : World} (h : Tab w) : 3 ≤ w.heap.size := by
  obtain ⟨_, _, _, h⟩ := h
  exact (Array.getElem?_eq_some_iff.1 h).1

theorem Tab.below {w w' : World} {B : Nat} (h : Tab w) (hb : Below B w w') (hB : 3 ≤ B) : Tab w' := by
  obtain ⟨⟨t, z, h0⟩, t', z', h1⟩ := h
  exact ⟨⟨t, z, by rw [hb.block 0 (by omega)]; exact h0⟩, t', z', by rw [hb.block 2 (by omega)]; exact h1⟩

theorem opsT_at (i : Nat) (hi : i < 43) : opsT[i]? = some (nameAt i, byteAt i, shapeAt i) := by
  have h : opsT[i]? = some opsT[i] := List.getElem?_eq_getElem _
  rw [h, nameAt, byteAt, shapeAt, List.getD_eq_getElem?_getD, h]
  rfl
theorem shT_at (i : Nat) (hi : i < 14) : shT[i]? = some (aMax i, bMax i, nMin i, nMax i, sizeAt i) := by
  have h : shT[i]? = some shT[i] := List.getElem?_eq_getElem _
  rw [h, aMax, bMax, nMin, nMax, sizeAt, List.getD_eq_getElem?_getD, h]
  rfl

theorem cell_block {w : World} {b : Nat} {cs : Array Value} {t : TypeId} {z : _} (h : w.heap[b]? = some (.cells cs t z)) (j : Nat) : w.cell? ⟨b, j, none⟩ = cs[j]? := by
  unfold World.cell?
  rw [h]
  rfl

theorem Tab.op {w : World} (h : Tab w) (i : Nat) (hi : i < 43) : w.cell? ⟨0, i * 3, none⟩ = some (.string (istr (nameAt i))) ∧ w.cell? ⟨0, i * 3 + 1, none⟩ = some (.int .u8 (byteAt i)) ∧ w.cell? ⟨0, i * 3 + 2, none⟩ = some (.int .i64 (shapeAt i)) := by
  obtain ⟨⟨t, z, h⟩, _⟩ := h
  have hf := flat_at opCells 3 (fun _ => rfl) opsT i
  have ho := opsT_at i hi
  rw [cell_block h, cell_block h, cell_block h, List.getElem?_toArray, List.getElem?_toArray, List.getElem?_toArray]
  refine ⟨?_, ?_, ?_⟩
  · exact (hf 0 _ ho (by omega)).trans rfl
  · exact (hf 1 _ ho (by omega)).trans rfl
  · exact (hf 2 _ ho (by omega)).trans rfl

theorem Tab.sh {w : World} (h : Tab w) (i : Nat) (hi : i < 14) : w.cell? ⟨2, i * 5, none⟩ = some (.int .i64 (aMax i)) ∧ w.cell? ⟨2, i * 5 + 1, none⟩ = some (.int .i64 (bMax i)) ∧ w.cell? ⟨2, i * 5 + 2, none⟩ = some (.int .i32 (nMin i)) ∧ w.cell? ⟨2, i * 5 + 3, none⟩ = some (.int .i32 (nMax i)) ∧ w.cell? ⟨2, i * 5 + 4, none⟩ = some (.int .i64 (sizeAt i)) := by
  obtain ⟨_, t, z, h⟩ := h
  have hf := flat_at shCells 5 (fun _ => rfl) shT i
  have ho := shT_at i hi
  rw [cell_block h, cell_block h, cell_block h, cell_block h, cell_block h, List.getElem?_toArray, List.getElem?_toArray, List.getElem?_toArray, List.getElem?_toArray, List.getElem?_toArray]
  refine ⟨?_, ?_, ?_, ?_, ?_⟩
  · exact (hf 0 _ ho (by omega)).trans rfl
  · exact (hf 1 _ ho (by omega)).trans rfl
  · exact (hf 2 _ ho (by omega)).trans rfl
  · exact (hf 3 _ ho (by omega)).trans rfl
  · exact (hf 4 _ ho (by omega)).trans rfl

/-- shapes are 1 to 13 -/
theorem shape_range (i : Nat) (hi : i < 43) : 1 ≤ shapeAt i ∧ shapeAt i ≤ 13 := by
  have : ∀ j : Fin 43, 1 ≤ shapeAt j.1 ∧ shapeAt j.1 ≤ 13 := by decide +kernel
  exact this ⟨i, hi⟩
section
variable {H : Type} {enc : TypeId × Value → H} {P : Program} {w : World} {base : Nat} {spare : Nat → Bool} {held : Bool}
theorem trod_struct5 {t : TypeId} {f0 f1 f2 f3 f4 : Field} {fuel : Nat} {cs : List Value} {x : DataW H × List MemPlace} (ht : P.underlying t = some (.struct #[f0, f1, f2, f3, f4])) (h : DataW.trod enc P w base spare held fuel t cs = some x) :
    ∃ y0 y1 y2 y3 y4 n, x = (.agg [y0.1, y1.1, y2.1, y3.1, y4.1], y0.2 ++ (y1.2 ++ (y2.2 ++ (y3.2 ++ y4.2)))) ∧ cs.length = P.cellsOf t ∧ DataW.trod enc P w base spare held n f0.type ((cs.drop f0.offset).take (P.cellsOf f0.type)) = some y0 ∧
      DataW.trod enc P w base spare held n f1.type ((cs.drop f1.offset).take (P.cellsOf f1.type)) = some y1 ∧ DataW.trod enc P w base spare held n f2.type ((cs.drop f2.offset).take (P.cellsOf f2.type)) = some y2 ∧
      DataW.trod enc P w base spare held n f3.type ((cs.drop f3.offset).take (P.cellsOf f3.type)) = some y3 ∧ DataW.trod enc P w base spare held n f4.type ((cs.drop f4.offset).take (P.cellsOf f4.type)) = some y4 := by
  obtain ⟨xs, n, _, rfl, hl, hlen, hf⟩ := DataW.trod_struct ht h
  match xs, hlen with
  | [y0, y1, y2, y3, y4], _ => exact ⟨y0, y1, y2, y3, y4, n, by simp, hl, by simpa using hf 0 f0 rfl, by simpa using hf 1 f1 rfl, by simpa using hf 2 f2 rfl, by simpa using hf 3 f3 rfl, by simpa using hf 4 f4 rfl⟩
end

theorem list3 {α : Type} {l : List α} (h : l.length = 3) : ∃ a b c, l = [a, b, c] := by
  match l, h with
  | [a, b, c], _ => exact ⟨a, b, c, rfl⟩
end Go.Proofs.YtmndccbeddaphaaGreatDoor
namespace Go.Proofs.YtmndccbeddaphaaGreatDoor
open Go.RowKit Go.Extern.Stop Go.Stop Go.Extern
set_option linter.unusedVariables false
set_option maxRecDepth 100000

theorem typeOf36 (v : Value) (w : World) : (ReflectliteType.typeOf #[.iface 23 v]).run Tryz.prog w = .ok (.iface 167 (.agg #[.pointer (some ⟨6, 23, none⟩)])) w := by kernel_rfl
end Go.Proofs.YtmndccbeddaphaaGreatDoor
