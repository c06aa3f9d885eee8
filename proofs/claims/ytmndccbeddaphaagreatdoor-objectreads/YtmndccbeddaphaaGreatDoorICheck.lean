/- isa's registers, numbers, Check and Len. -/
import Derived.Test.YtmndccbeddaphaaGreatDoorNum2
import Derived.Test.YtmndccbeddaphaaGreatDoorRows
import Derived.WalkKit
import Derived.ProofKit
import Derived.OpenShut
import Derived.Below
import Derived.Handy
import Derived.Lib.LaidTab
import Derived.Stop.LaidErr
import Derived.Deep.Strs
import Derived.Lib.Strings
import Derived.Deep.RegionHeld3
import Derived.Deep.DeepCutAuto
/- The two tables of isa as lists; what a world holds that has them. -/
namespace Go.Proofs.YtmndccbeddaphaaGreatDoor
open Go.ChangeShapes Go.WideShapes Go.ChangeAt Go.RowKit
set_option linter.unusedVariables false
set_option maxRecDepth 100000
abbrev istr (l : List UInt8) : ByteArray := ⟨l.toArray⟩
def opsT : List (List UInt8 × Int × Int) := [([110, 111, 112], 0, 1), ([104, 97, 108, 116], 1, 1), ([114, 101, 116], 2, 1), ([112, 114, 105, 110, 116], 3, 2), ([105, 110], 4, 2), ([112, 117, 115, 104], 5, 2), ([112, 111, 112], 6, 2), ([106, 114], 7, 2), ([110, 101, 103], 8, 2), ([110, 111, 116], 9, 2), ([122, 116, 117, 114, 110], 10, 3), ([122, 99, 111, 110, 106], 11, 3), ([109, 111, 118], 16, 4), ([97, 100, 100], 17, 4), ([115, 117, 98], 18, 4), ([109, 117, 108], 19, 4), ([100, 105, 118], 20, 4), ([97, 110, 100], 21, 4), ([111, 114], 22, 4), ([120, 111, 114], 23, 4), ([115, 104, 108], 24, 4), ([115, 104, 114], 25, 4), ([108, 116], 26, 4), ([101, 113], 27, 4), ([108, 100, 98], 28, 4), ([108, 100, 119], 29, 4), ([108, 100, 109], 30, 4), ([115, 116, 109], 31, 4), ([122, 109, 111, 118], 32, 5), ([122, 97, 100, 100], 33, 5), ([122, 115, 117, 98], 34, 5), ([122, 109, 117, 108], 35, 5), ([122, 114, 101], 36, 6), ([122, 105, 109], 37, 6), ([122, 115, 101, 116], 38, 7), ([108, 105, 115], 48, 8), ([116, 114, 97, 112], 49, 9), ([108, 105], 50, 10), ([108, 100, 112], 51, 11), ([106, 109, 112], 64, 12), ([99, 97, 108, 108], 67, 12), ([106, 122], 70, 13), ([106, 110, 122], 73, 13)]
def shT : List (Int × Int × Int × Int × Int) := [(0, 0, 0, 0, 0), (0, 0, 0, 0, 1), (7, 0, 0, 0, 2), (3, 0, 0, 0, 2), (7, 7, 0, 0, 2), (3, 3, 0, 0, 2), (7, 3, 0, 0, 2), (3, 7, 0, 7, 3), (7, 0, -128, 127, 3), (0, 0, 0, 255, 2), (7, 0, -2147483648, 2147483647, 6), (7, 0, 0, 4095, 4), (0, 0, 0, 0, 1), (7, 0, 0, 0, 2)]
def opCells (x : List UInt8 × Int × Int) : List Value := [.string (istr x.1), .int .u8 x.2.1, .int .i64 x.2.2]
def shCells (x : Int × Int × Int × Int × Int) : List Value := [.int .i64 x.1, .int .i64 x.2.1, .int .i32 x.2.2.1, .int .i32 x.2.2.2.1, .int .i64 x.2.2.2.2]
def nameAt (i : Nat) : List UInt8 := (opsT.getD i ([], 0, 0)).1
def byteAt (i : Nat) : Int := (opsT.getD i ([], 0, 0)).2.1
def shapeAt (i : Nat) : Int := (opsT.getD i ([], 0, 0)).2.2
def aMax (i : Nat) : Int := (shT.getD i (0, 0, 0, 0, 0)).1
def bMax (i : Nat) : Int := (shT.getD i (0, 0, 0, 0, 0)).2.1
def nMin (i : Nat) : Int := (shT.getD i (0, 0, 0, 0, 0)).2.2.1
def nMax (i : Nat) : Int := (shT.getD i (0, 0, 0, 0, 0)).2.2.2.1
def sizeAt (i : Nat) : Int := (shT.getD i (0, 0, 0, 0, 0)).2.2.2.2
theorem flat_at {α β : Type} (f : α → List β) (k : Nat) (hf : ∀ x, (f x).length = k) : ∀ (l : List α) (i j : Nat) (x : α), l[i]? = some x → j < k → (l.flatMap f)[i * k + j]? = (f x)[j]?
  | [], i, j, x, h, hj => by simp at h
  | y :: l, 0, j, x, h, hj => by
    simp only [List.getElem?_cons_zero, Option.some.injEq] at h
    subst h
    rw [List.flatMap_cons, Nat.zero_mul, Nat.zero_add, List.getElem?_append_left (by rw [hf]; exact hj)]
  | y :: l, i + 1, j, x, h, hj => by
    rw [List.flatMap_cons, List.getElem?_append_right (by rw [hf, Nat.succ_mul]; omega), hf, show (i + 1) * k + j - k = i * k + j by rw [Nat.succ_mul]; omega]
    exact flat_at f k hf l i j x (by simpa using h) hj
def Tab (w : World) : Prop := (∃ t z, w.heap[0]? = some (.cells (opsT.flatMap opCells).toArray t z)) ∧ ∃ t z, w.heap[2]? = some (.cells (shT.flatMap shCells).toArray t z)
theorem Tab.size {w : World} (h : Tab w) : 3 ≤ w.heap.size := by
  obtain ⟨_, _, _, h⟩ := h
  exact (Array.getElem?_eq_some_iff.1 h).1
theorem Tab.below {w w' : World} {B : Nat} (h : Tab w) (hb : Below B w w') (hB : 3 ≤ B) : Tab w' := by
  obtain ⟨⟨t, z, h0⟩, t', z', h1⟩ := h
  exact ⟨⟨t, z, by rw [hb.block 0 (by omega)]; exact h0⟩, t', z', by rw [hb.block 2 (by omega)]; exact h1⟩
theorem opsT_at (i : Nat) (hi : i < 43) : opsT[i]? = some (nameAt i, byteAt i, shapeAt i) := by
  have h : opsT[i]? = some opsT[i] := List.getElem?_eq_getElem _
  rw [h, nameAt, byteAt, shapeAt, List.getD_eq_getElem?_getD, h]
  rfl
theorem shT_at (i : Nat) (hi : i < 14) : shT[i]? = some (aMax i, bMax i, nMin i, nMax i, sizeAt i) := by
  have h : shT[i]? = some shT[i] := List.getElem?_eq_getElem _
  rw [h, aMax, bMax, nMin, nMax, sizeAt, List.getD_eq_getElem?_getD, h]
  rfl
theorem cell_block {w : World} {b : Nat} {cs : Array Value} {t : TypeId} {z : _} (h : w.heap[b]? = some (.cells cs t z)) (j : Nat) : w.cell? ⟨b, j, none⟩ = cs[j]? := by
  unfold World.cell?
  rw [h]
  rfl
theorem Tab.op {w : World} (h : Tab w) (i : Nat) (hi : i < 43) : w.cell? ⟨0, i * 3, none⟩ = some (.string (istr (nameAt i))) ∧ w.cell? ⟨0, i * 3 + 1, none⟩ = some (.int .u8 (byteAt i)) ∧ w.cell? ⟨0, i * 3 + 2, none⟩ = some (.int .i64 (shapeAt i)) := by
  obtain ⟨⟨t, z, h⟩, _⟩ := h
  have hf := flat_at opCells 3 (fun _ => rfl) opsT i
  have ho := opsT_at i hi
  rw [cell_block h, cell_block h, cell_block h, List.getElem?_toArray, List.getElem?_toArray, List.getElem?_toArray]
  refine ⟨?_, ?_, ?_⟩
  · exact (hf 0 _ ho (by omega)).trans rfl
  · exact (hf 1 _ ho (by omega)).trans rfl
  · exact (hf 2 _ ho (by omega)).trans rfl
theorem Tab.sh {w : World} (h : Tab w) (i : Nat) (hi : i < 14) : w.cell? ⟨2, i * 5, none⟩ = some (.int .i64 (aMax i)) ∧ w.cell? ⟨2, i * 5 + 1, none⟩ = some (.int .i64 (bMax i)) ∧ w.cell? ⟨2, i * 5 + 2, none⟩ = some (.int .i32 (nMin i)) ∧ w.cell? ⟨2, i * 5 + 3, none⟩ = some (.int .i32 (nMax i)) ∧ w.cell? ⟨2, i * 5 + 4, none⟩ = some (.int .i64 (sizeAt i)) := by
  obtain ⟨_, t, z, h⟩ := h
  have hf := flat_at shCells 5 (fun _ => rfl) shT i
  have ho := shT_at i hi
  rw [cell_block h, cell_block h, cell_block h, cell_block h, cell_block h, List.getElem?_toArray, List.getElem?_toArray, List.getElem?_toArray, List.getElem?_toArray, List.getElem?_toArray]
  refine ⟨?_, ?_, ?_, ?_, ?_⟩
  · exact (hf 0 _ ho (by omega)).trans rfl
  · exact (hf 1 _ ho (by omega)).trans rfl
  · exact (hf 2 _ ho (by omega)).trans rfl
  · exact (hf 3 _ ho (by omega)).trans rfl
  · exact (hf 4 _ ho (by omega)).trans rfl
theorem shape_range (i : Nat) (hi : i < 43) : 1 ≤ shapeAt i ∧ shapeAt i ≤ 13 := by
  have : ∀ j : Fin 43, 1 ≤ shapeAt j.1 ∧ shapeAt j.1 ≤ 13 := by decide +kernel
  exact this ⟨i, hi⟩
section
variable {H : Type} {enc : TypeId × Value → H} {P : Program} {w : World} {base : Nat} {spare : Nat → Bool} {held : Bool}
theorem trod_struct5 {t : TypeId} {f0 f1 f2 f3 f4 : Field} {fuel : Nat} {cs : List Value} {x : DataW H × List MemPlace} (ht : P.underlying t = some (.struct #[f0, f1, f2, f3, f4])) (h : DataW.trod enc P w base spare held fuel t cs = some x) :
    ∃ y0 y1 y2 y3 y4 n, x = (.agg [y0.1, y1.1, y2.1, y3.1, y4.1], y0.2 ++ (y1.2 ++ (y2.2 ++ (y3.2 ++ y4.2)))) ∧ cs.length = P.cellsOf t ∧ DataW.trod enc P w base spare held n f0.type ((cs.drop f0.offset).take (P.cellsOf f0.type)) = some y0 ∧
      DataW.trod enc P w base spare held n f1.type ((cs.drop f1.offset).take (P.cellsOf f1.type)) = some y1 ∧ DataW.trod enc P w base spare held n f2.type ((cs.drop f2.offset).take (P.cellsOf f2.type)) = some y2 ∧
      DataW.trod enc P w base spare held n f3.type ((cs.drop f3.offset).take (P.cellsOf f3.type)) = some y3 ∧ DataW.trod enc P w base spare held n f4.type ((cs.drop f4.offset).take (P.cellsOf f4.type)) = some y4 := by
  obtain ⟨xs, n, _, rfl, hl, hlen, hf⟩ := DataW.trod_struct ht h
  match xs, hlen with
  | [y0, y1, y2, y3, y4], _ => exact ⟨y0, y1, y2, y3, y4, n, by simp, hl, by simpa using hf 0 f0 rfl, by simpa using hf 1 f1 rfl, by simpa using hf 2 f2 rfl, by simpa using hf 3 f3 rfl, by simpa using hf 4 f4 rfl⟩
end
theorem list3 {α : Type} {l : List α} (h : l.length = 3) : ∃ a b c, l = [a, b, c] := by
  match l, h with
  | [a, b, c], _ => exact ⟨a, b, c, rfl⟩
end Go.Proofs.YtmndccbeddaphaaGreatDoor
/- Contracts of isa's small functions. -/
namespace Go.Proofs.YtmndccbeddaphaaGreatDoor
open Go.ChangeShapes Go.WideShapes Go.ChangeAt Go.RowKit
set_option linter.unusedVariables false
set_option maxRecDepth 100000
abbrev instV (op a b n f : Int) : Value := .agg #[.int .i64 op, .int .i64 a, .int .i64 b, .int .i32 n, .int .i64 f]
abbrev opV (s : List UInt8) (b h : Int) : Value := .agg #[.string (istr s), .int .u8 b, .int .i64 h]
abbrev limV (a b l m z : Int) : Value := .agg #[.int .i64 a, .int .i64 b, .int .i32 l, .int .i32 m, .int .i64 z]
theorem ibelow_alloc (w : World) (o : Obj) : Below w.heap.size w (w.alloc o) := (Below.refl _ w).alloc (Nat.le_refl _) o
def spansB (s : Int) : Bool := s == 12 || s == 13
theorem spans_any (s : Int) (w : World) :
    Calls Tryz.prog 175 #[.int .i64 s] w fun e w' => e = .returned (.bool (spansB s)) ∧ w' = w := by
  by_cases h1 : s = 12
  · subst h1
    go_enter Tryz.func175, Tryz.ntmps175
    go_wp2
    go_ret
    exact ⟨rfl, rfl⟩
  · have e1 : (s == 12) = false := by simpa using h1
    have hs : spansB s = (s == 13) := by simp [spansB, e1]
    rw [hs]
    go_enter Tryz.func175, Tryz.ntmps175
    go_wp2
    go_ret
    exact ⟨rfl, rfl⟩
def fitsB (n m : Int) : Bool := if m = 1 then decide (-128 ≤ n ∧ n ≤ 127) else if m = 2 then decide (-32768 ≤ n ∧ n ≤ 32767) else if m = 4 then true else false
theorem i8wrap (n : Int) : IntKind.i8.wrap n = (n + 128) % 256 - 128 := by
  simp only [IntKind.wrap, IntKind.bits, IntKind.signed]
  simp
  split <;> omega
theorem i16wrap (n : Int) : IntKind.i16.wrap n = (n + 32768) % 65536 - 32768 := by
  simp only [IntKind.wrap, IntKind.bits, IntKind.signed]
  simp
  split <;> omega
theorem reaches_any (n m : Int) (w : World) (h : -2147483648 ≤ n ∧ n ≤ 2147483647) :
    Calls Tryz.prog 192 #[.int .i32 n, .int .i64 m] w fun e w' => e = .returned (.bool (fitsB n m)) ∧ w' = w := by
  by_cases h1 : m = 1
  · subst h1
    have hs : fitsB n 1 = (n == wrap32 (IntKind.i8.wrap n)) := by
      rw [Bool.eq_iff_iff]
      simp [fitsB, wrap32, i8wrap]
      omega
    rw [hs]
    go_enter Tryz.func192, Tryz.ntmps192
    go_wp2
    go_ret
    exact ⟨rfl, rfl⟩
  · have e1 : (m == 1) = false := by simpa using h1
    by_cases h2 : m = 2
    · subst h2
      have hs : fitsB n 2 = (n == wrap32 (IntKind.i16.wrap n)) := by
        rw [Bool.eq_iff_iff]
        simp [fitsB, wrap32, i16wrap]
        omega
      rw [hs]
      go_enter Tryz.func192, Tryz.ntmps192
      go_wp2
      go_ret
      exact ⟨rfl, rfl⟩
    · have e2 : (m == 2) = false := by simpa using h2
      have hs : fitsB n m = (m == 4) := by
        simp only [fitsB, h1, h2, if_false]
        by_cases h4 : m = 4 <;> simp [h4]
      rw [hs]
      go_enter Tryz.func192, Tryz.ntmps192
      go_wp2
      go_ret
      exact ⟨rfl, rfl⟩
theorem inEnds_any (n a b l m z : Int) (w : World) :
    Calls Tryz.prog 191 #[.int .i32 n, limV a b l m z] w fun e w' => e = .returned (.bool (decide (l ≤ n) && decide (n ≤ m))) ∧ Below w.heap.size w w' := by
  by_cases hl : l ≤ n
  · go_enter Tryz.func191, Tryz.ntmps191
    go_wp2
    go_ret
    exact ⟨by simp [hl], ibelow_alloc _ _⟩
  · have hd : decide (l ≤ n) = false := decide_eq_false hl
    rw [hd]
    go_enter Tryz.func191, Tryz.ntmps191
    go_wp2
    go_ret
    exact ⟨rfl, ibelow_alloc _ _⟩
def atV (op : Int) : Value := if 1 ≤ op ∧ op ≤ 43 then .tuple #[opV (nameAt (op - 1).toNat) (byteAt (op - 1).toNat) (shapeAt (op - 1).toNat), .bool true] else .tuple #[opV [] 0 0, .bool false]
theorem Tab.alloc {w : World} (h : Tab w) (o : Obj) : Tab (w.alloc o) := h.below (ibelow_alloc w o) h.size
theorem at_any (op : Int) (w : World) (hT : Tab w) :
    Calls Tryz.prog 170 #[.int .i64 op] w fun e w' => e = .returned (atV op) ∧ Below w.heap.size w w' := by
  by_cases h1 : op < 1
  · have hr : atV op = .tuple #[opV [] 0 0, .bool false] := by rw [atV, if_neg (by omega)]
    rw [hr]
    go_enter Tryz.func170, Tryz.ntmps170
    go_wp2
    go_returns
    exact ⟨rfl, ibelow_alloc _ _⟩
  · by_cases h2 : op > 43
    · have hr : atV op = .tuple #[opV [] 0 0, .bool false] := by rw [atV, if_neg (by omega)]
      rw [hr]
      go_enter Tryz.func170, Tryz.ntmps170
      go_wp2
      go_returns
      exact ⟨rfl, ibelow_alloc _ _⟩
    · obtain ⟨i, rfl⟩ : ∃ i : Nat, op = (i : Int) + 1 := ⟨(op - 1).toNat, by omega⟩
      have hr : atV ((i : Int) + 1) = .tuple #[opV (nameAt i) (byteAt i) (shapeAt i), .bool true] := by rw [atV, if_pos (by omega), show ((i : Int) + 1 - 1).toNat = i by omega]
      rw [hr]
      have q0 := fun o => ((hT.alloc o).op i (by omega)).1
      have q1 := fun o => ((hT.alloc o).op i (by omega)).2.1
      have q2 := fun o => ((hT.alloc o).op i (by omega)).2.2
      have hsz := hT.size
      go_enter Tryz.func170, Tryz.ntmps170
      go_wp2
      all_goals first | omega | skip
      go_returns
      exact ⟨rfl, ibelow_alloc _ _⟩
end Go.Proofs.YtmndccbeddaphaaGreatDoor
/- isa.Ops, Find, Spans, and the document's. -/
namespace Go.Proofs.YtmndccbeddaphaaGreatDoor
open Go.ChangeShapes Go.WideShapes Go.ChangeAt Go.RowKit
set_option linter.unusedVariables false
set_option maxRecDepth 100000
def shapeN (op : Int) : Int := if 1 ≤ op ∧ op ≤ 43 then shapeAt (op - 1).toNat else 0
theorem shapeN_some {op : Int} (h : 1 ≤ op ∧ op ≤ 43) : 1 ≤ shapeN op ∧ shapeN op ≤ 13 := by
  rw [shapeN, if_pos h]
  exact shape_range _ (by omega)
theorem atV_eq (op : Int) : atV op = .tuple #[opV (if 1 ≤ op ∧ op ≤ 43 then nameAt (op - 1).toNat else []) (if 1 ≤ op ∧ op ≤ 43 then byteAt (op - 1).toNat else 0) (shapeN op), .bool (decide (1 ≤ op ∧ op ≤ 43))] := by
  unfold atV shapeN
  by_cases h : 1 ≤ op ∧ op ≤ 43
  · simp only [if_pos h, decide_eq_true h]
  · simp only [if_neg h, decide_eq_false h]
theorem at_parts (op : Int) (w : World) (hT : Tab w) :
    Calls Tryz.prog 170 #[.int .i64 op] w fun e w' => (∃ s b, e = .returned (.tuple #[opV s b (shapeN op), .bool (decide (1 ≤ op ∧ op ≤ 43))])) ∧ Below w.heap.size w w' :=
  (at_any op w hT).mono fun e w' ⟨he, hb⟩ => ⟨⟨_, _, he.trans (congrArg _ (atV_eq op))⟩, hb⟩
theorem spansOp_any (op : Int) (w : World) (hT : Tab w) :
    Calls Tryz.prog 146 #[.int .i64 op] w fun e w' => e = .returned (.bool (spansB (shapeN op))) ∧ Below w.heap.size w w' := by
  by_cases h : 1 ≤ op ∧ op ≤ 43
  · have hd : decide (1 ≤ op ∧ op ≤ 43) = true := decide_eq_true h
    generalize hb : decide (1 ≤ op ∧ op ≤ 43) = B at *
    subst hd
    go_enter Tryz.func146, Tryz.ntmps146
    go_wp2_with (first | (go_at_call 170; refine (at_parts _ _ hT).mono ?_; rintro e w' ⟨⟨s, b, rfl⟩, hbel⟩; rw [hb]) | (go_at_call 175; refine (spans_any _ _).mono ?_; rintro e w' ⟨rfl, rfl⟩))
    go_ret
    exact ⟨rfl, (hbel.alloc hbel.size _)⟩
  · have hd : decide (1 ≤ op ∧ op ≤ 43) = false := decide_eq_false h
    have hs : spansB (shapeN op) = false := by rw [shapeN, if_neg h]; rfl
    generalize hb : decide (1 ≤ op ∧ op ≤ 43) = B at *
    subst hd
    rw [hs]
    go_enter Tryz.func146, Tryz.ntmps146
    go_wp2_with (first | (go_at_call 170; refine (at_parts _ _ hT).mono ?_; rintro e w' ⟨⟨s, b, rfl⟩, hbel⟩; rw [hb]) | (go_at_call 175; refine (spans_any _ _).mono ?_; rintro e w' ⟨rfl, rfl⟩))
    go_ret
    exact ⟨rfl, (hbel.alloc hbel.size _)⟩
end Go.Proofs.YtmndccbeddaphaaGreatDoor
namespace Go.Proofs.YtmndccbeddaphaaGreatDoor
open Go.ChangeShapes Go.WideShapes Go.ChangeAt Go.RowKit
set_option linter.unusedVariables false
set_option maxRecDepth 100000
def regB (a b n : Int) (s : Nat) : Bool := decide (0 ≤ a ∧ a ≤ aMax s ∧ 0 ≤ b ∧ b ≤ bMax s) && (decide (s ≠ 7) || (decide (nMin s ≤ n) && decide (n ≤ nMax s)))
theorem hasRegisters_any (op a b n f : Int) (s : Nat) (hs : s < 14) (w : World) (hT : Tab w) :
    Calls Tryz.prog 176 #[instV op a b n f, .int .i64 (s : Int)] w fun e w' => e = .returned (.bool (regB a b n s)) ∧ Below w.heap.size w w' := by
  have q0 := fun o => ((hT.alloc o).sh s hs).1
  have q1 := fun o => ((hT.alloc o).sh s hs).2.1
  have q2 := fun o => ((hT.alloc o).sh s hs).2.2.1
  have q3 := fun o => ((hT.alloc o).sh s hs).2.2.2.1
  have q4 := fun o => ((hT.alloc o).sh s hs).2.2.2.2
  unfold regB
  generalize aMax s = A at *
  generalize bMax s = B at *
  generalize nMin s = L at *
  generalize nMax s = M at *
  generalize sizeAt s = Z at *
  have hsz := hT.size
  clear hT
  by_cases h1 : a < 0
  · rw [decide_eq_false (by omega : ¬ (0 ≤ a ∧ a ≤ A ∧ 0 ≤ b ∧ b ≤ B)), Bool.false_and]
    go_enter Tryz.func176, Tryz.ntmps176
    go_wp2_with (go_at_call 191; refine (inEnds_any _ _ _ _ _ _ _).mono ?_; rintro e w' ⟨rfl, hbel⟩; replace hbel := Hid.intro hbel)
    all_goals first | omega | skip
    go_ret
    exact ⟨rfl, ((ibelow_alloc w _).alloc (by simp) _)⟩
  by_cases h2 : a > A
  · rw [decide_eq_false (by omega : ¬ (0 ≤ a ∧ a ≤ A ∧ 0 ≤ b ∧ b ≤ B)), Bool.false_and]
    go_enter Tryz.func176, Tryz.ntmps176
    go_wp2_with (go_at_call 191; refine (inEnds_any _ _ _ _ _ _ _).mono ?_; rintro e w' ⟨rfl, hbel⟩; replace hbel := Hid.intro hbel)
    all_goals first | omega | skip
    go_ret
    exact ⟨rfl, ((ibelow_alloc w _).alloc (by simp) _)⟩
  by_cases h3 : b < 0
  · rw [decide_eq_false (by omega : ¬ (0 ≤ a ∧ a ≤ A ∧ 0 ≤ b ∧ b ≤ B)), Bool.false_and]
    go_enter Tryz.func176, Tryz.ntmps176
    go_wp2_with (go_at_call 191; refine (inEnds_any _ _ _ _ _ _ _).mono ?_; rintro e w' ⟨rfl, hbel⟩; replace hbel := Hid.intro hbel)
    all_goals first | omega | skip
    go_ret
    exact ⟨rfl, ((ibelow_alloc w _).alloc (by simp) _)⟩
  by_cases h4 : b > B
  · rw [decide_eq_false (by omega : ¬ (0 ≤ a ∧ a ≤ A ∧ 0 ≤ b ∧ b ≤ B)), Bool.false_and]
    go_enter Tryz.func176, Tryz.ntmps176
    go_wp2_with (go_at_call 191; refine (inEnds_any _ _ _ _ _ _ _).mono ?_; rintro e w' ⟨rfl, hbel⟩; replace hbel := Hid.intro hbel)
    all_goals first | omega | skip
    go_ret
    exact ⟨rfl, ((ibelow_alloc w _).alloc (by simp) _)⟩
  rw [decide_eq_true (by omega : 0 ≤ a ∧ a ≤ A ∧ 0 ≤ b ∧ b ≤ B), Bool.true_and]
  by_cases h5 : s = 7
  · rw [decide_eq_false (by omega : ¬ s ≠ 7), Bool.false_or]
    have e5 : ((s : Int) == 7) = true := by simp [h5]
    have e6 : ((s : Int) != 7) = false := by simp [h5]
    clear h5
    go_enter Tryz.func176, Tryz.ntmps176
    go_wp2_with (go_at_call 191; refine (inEnds_any _ _ _ _ _ _ _).mono ?_; rintro e w' ⟨rfl, hbel⟩; replace hbel := Hid.intro hbel)
    all_goals first | omega | skip
    go_ret
    exact ⟨rfl, ((ibelow_alloc w _).alloc (by simp) _).trans (hbel.out.mono (by simp; omega))⟩
  · rw [decide_eq_true h5, Bool.true_or]
    have e5 : ((s : Int) == 7) = false := by simp; omega
    have e6 : ((s : Int) != 7) = true := by simp; omega
    clear h5
    go_enter Tryz.func176, Tryz.ntmps176
    go_wp2_with (go_at_call 191; refine (inEnds_any _ _ _ _ _ _ _).mono ?_; rintro e w' ⟨rfl, hbel⟩; replace hbel := Hid.intro hbel)
    all_goals first | omega | skip
    go_ret
    exact ⟨rfl, ((ibelow_alloc w _).alloc (by simp) _)⟩
def instL (op a b n f : Int) : List Value := [.int .i64 op, .int .i64 a, .int .i64 b, .int .i32 n, .int .i64 f]
theorem inst_cell (w : World) (op a b n f : Int) (j : Nat) : (w.alloc (.cells #[.int .i64 op, .int .i64 a, .int .i64 b, .int .i32 n, .int .i64 f] 81)).cell? ⟨w.heap.size, j, none⟩ = (instL op a b n f).toArray[j]? := cell_block (heap_alloc_new w _) j
structure Seven (g s : Nat) (n f A B L M Z : Int) (w : World) : Prop where
  n : w.cell? ⟨g, 3, none⟩ = some (.int .i32 n)
  f : w.cell? ⟨g, 4, none⟩ = some (.int .i64 f)
  a : w.cell? ⟨2, s * 5, none⟩ = some (.int .i64 A)
  b : w.cell? ⟨2, s * 5 + 1, none⟩ = some (.int .i64 B)
  l : w.cell? ⟨2, s * 5 + 2, none⟩ = some (.int .i32 L)
  m : w.cell? ⟨2, s * 5 + 3, none⟩ = some (.int .i32 M)
  z : w.cell? ⟨2, s * 5 + 4, none⟩ = some (.int .i64 Z)
  lt : g < w.heap.size
  two : 2 < w.heap.size
theorem Seven.drew {g s : Nat} {n f A B L M Z : Int} {w : World} (h : Seven g s n f A B L M Z w) : Seven g s n f A B L M Z w.drew := ⟨h.n, h.f, h.a, h.b, h.l, h.m, h.z, h.lt, h.two⟩
theorem Seven.below {g s : Nat} {n f A B L M Z : Int} {w w' : World} (h : Seven g s n f A B L M Z w) (hb : Below w.heap.size w w') : Seven g s n f A B L M Z w' :=
  ⟨(hb.cell (p := ⟨g, 3, none⟩) h.lt).trans h.n, (hb.cell (p := ⟨g, 4, none⟩) h.lt).trans h.f, (hb.cell (p := ⟨2, s * 5, none⟩) h.two).trans h.a, (hb.cell (p := ⟨2, s * 5 + 1, none⟩) h.two).trans h.b, (hb.cell (p := ⟨2, s * 5 + 2, none⟩) h.two).trans h.l, (hb.cell (p := ⟨2, s * 5 + 3, none⟩) h.two).trans h.m, (hb.cell (p := ⟨2, s * 5 + 4, none⟩) h.two).trans h.z, Nat.lt_of_lt_of_le h.lt hb.size, Nat.lt_of_lt_of_le h.two hb.size⟩
def numB (n f : Int) (s : Nat) : Bool := if spansB (s : Int) then fitsB n f else decide (f = 0) && (decide (nMin s ≤ n) && decide (n ≤ nMax s))
theorem hasNumber_any (op a b n f : Int) (s : Nat) (hs : s < 14) (w : World) (hT : Tab w) (hn : -2147483648 ≤ n ∧ n ≤ 2147483647) :
    Calls Tryz.prog 177 #[instV op a b n f, .int .i64 (s : Int)] w fun e w' => e = .returned (.bool (numB n f s)) ∧ Below w.heap.size w w' := by
  have q0 := fun o => ((hT.alloc o).sh s hs).1
  have q1 := fun o => ((hT.alloc o).sh s hs).2.1
  have q2 := fun o => ((hT.alloc o).sh s hs).2.2.1
  have q3 := fun o => ((hT.alloc o).sh s hs).2.2.2.1
  have q4 := fun o => ((hT.alloc o).sh s hs).2.2.2.2
  unfold numB
  generalize aMax s = A at *
  generalize bMax s = B at *
  generalize nMin s = L at *
  generalize nMax s = M at *
  generalize sizeAt s = Z at *
  have hsz := hT.size
  clear hT
  generalize hsp : spansB (s : Int) = sp
  cases sp with
  | true =>
    rw [if_pos rfl]
    go_enter Tryz.func177, Tryz.ntmps177
    go_wp2_with (first | (go_at_call 175; refine (spans_any _ _).mono ?_; rintro e w' ⟨rfl, rfl⟩; rw [hsp]) | (go_at_call 192; refine (reaches_any _ _ _ hn).mono ?_; rintro e w' ⟨rfl, rfl⟩))
    all_goals first | omega | skip
    go_ret
    exact ⟨rfl, ibelow_alloc w _⟩
  | false =>
    rw [if_neg (by simp)]
    have c3 := inst_cell w op a b n f 3
    have c4 := inst_cell w op a b n f 4
    simp only [instL, List.getElem?_toArray, List.getElem?_cons_succ, List.getElem?_cons_zero] at c3 c4
    have hbox := ibelow_alloc w (.cells #[.int .i64 op, .int .i64 a, .int .i64 b, .int .i32 n, .int .i64 f] 81)
    have hS : Seven w.heap.size s n f A B L M Z (w.alloc (.cells #[.int .i64 op, .int .i64 a, .int .i64 b, .int .i32 n, .int .i64 f] 81)) := ⟨c3, c4, q0 _, q1 _, q2 _, q3 _, q4 _, by simp, by simp; omega⟩
    by_cases h1 : f = 0
    · subst h1
      rw [decide_eq_true rfl, Bool.true_and]
      go_enter Tryz.func177, Tryz.ntmps177
      go_wp2_with (go_at_call 175; refine (spans_any _ _).mono ?_; rintro e w' ⟨rfl, rfl⟩; rw [hsp])
      clear c3 c4 q0 q1 q2 q3 q4
      generalize w.alloc (.cells #[.int .i64 op, .int .i64 a, .int .i64 b, .int .i32 n, .int .i64 0] 81) = w0 at *
      have hSH := Hid.intro hS
      have hbH := Hid.intro hbox
      obtain ⟨c3, c4, q0, q1, q2, q3, q4, l1, l2⟩ := hS
      clear l1 l2 hbox
      have b0 : (0 : Int) ≤ (s : Int) := by omega
      have b1 : (s : Int) < 14 := by omega
      have b2 : (s : Int) ≤ 14 := by omega
      go_region_held3 (fun w' => w'.cell? ⟨w.heap.size, 3, none⟩ = some (.int .i32 n) ∧ w'.cell? ⟨w.heap.size, 4, none⟩ = some (.int .i64 0) ∧ w'.cell? ⟨2, s * 5, none⟩ = some (.int .i64 A) ∧ w'.cell? ⟨2, s * 5 + 1, none⟩ = some (.int .i64 B) ∧ w'.cell? ⟨2, s * 5 + 2, none⟩ = some (.int .i32 L) ∧ w'.cell? ⟨2, s * 5 + 3, none⟩ = some (.int .i32 M) ∧ w'.cell? ⟨2, s * 5 + 4, none⟩ = some (.int .i64 Z)) (go_keep)
        ((first
          | (go_at_call 191; refine (inEnds_any _ _ _ _ _ _ _).mono ?_; rintro e w1 ⟨rfl, hbel⟩; obtain ⟨d3, d4, p0, p1, p2, p3, p4, l1, l2⟩ := hSH.out.drew.below hbel; clear l1 l2; replace hbel := Hid.intro hbel)))
      all_goals go_wp2_with fail
      all_goals first | omega | skip
      all_goals go_ret
      all_goals exact ⟨rfl, hbH.out.drew.trans (hbel.out.mono hbH.out.size)⟩
    · rw [decide_eq_false h1, Bool.false_and]
      have e1 : (f == 0) = false := by simpa using h1
      go_enter Tryz.func177, Tryz.ntmps177
      go_wp2_with (go_at_call 175; refine (spans_any _ _).mono ?_; rintro e w' ⟨rfl, rfl⟩; rw [hsp])
      clear c3 c4 q0 q1 q2 q3 q4
      generalize w.alloc (.cells #[.int .i64 op, .int .i64 a, .int .i64 b, .int .i32 n, .int .i64 f] 81) = w0 at *
      have hbH := Hid.intro hbox
      obtain ⟨c3, c4, q0, q1, q2, q3, q4, l1, l2⟩ := hS
      clear l1 l2 hbox
      go_region
      all_goals go_wp2_with fail
      all_goals go_ret
      all_goals exact ⟨rfl, hbH.out.drew⟩
end Go.Proofs.YtmndccbeddaphaaGreatDoor
