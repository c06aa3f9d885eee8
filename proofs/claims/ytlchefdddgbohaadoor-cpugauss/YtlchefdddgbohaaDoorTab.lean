/- The two tables of isa as lists; what a world holds that has them. -/
import Derived.Test.YtlchefdddgbohaaDoorRows
import Derived.WalkKit
import Derived.ProofKit
import Derived.OpenShut
import Derived.Below
import Derived.Handy
import Derived.Lib.LaidTab
import Derived.Stop.LaidErr
import Derived.Deep.Strs
namespace Go.Proofs.YtlchefdddgbohaaDoor
open Go.ChangeShapes Go.WideShapes Go.ChangeAt Go.RowKit
set_option linter.unusedVariables false
set_option maxRecDepth 100000

abbrev str (l : List UInt8) : ByteArray := ⟨l.toArray⟩

/-- the operations: name, first byte, shape -/
def opsT : List (List UInt8 × Int × Int) := [([110, 111, 112], 0, 1), ([104, 97, 108, 116], 1, 1), ([114, 101, 116], 2, 1), ([112, 114, 105, 110, 116], 3, 2), ([105, 110], 4, 2), ([112, 117, 115, 104], 5, 2), ([112, 111, 112], 6, 2), ([106, 114], 7, 2), ([110, 101, 103], 8, 2), ([110, 111, 116], 9, 2), ([122, 116, 117, 114, 110], 10, 3), ([122, 99, 111, 110, 106], 11, 3), ([109, 111, 118], 16, 4), ([97, 100, 100], 17, 4), ([115, 117, 98], 18, 4), ([109, 117, 108], 19, 4), ([100, 105, 118], 20, 4), ([97, 110, 100], 21, 4), ([111, 114], 22, 4), ([120, 111, 114], 23, 4), ([115, 104, 108], 24, 4), ([115, 104, 114], 25, 4), ([108, 116], 26, 4), ([101, 113], 27, 4), ([108, 100, 98], 28, 4), ([108, 100, 119], 29, 4), ([108, 100, 109], 30, 4), ([115, 116, 109], 31, 4), ([122, 109, 111, 118], 32, 5), ([122, 97, 100, 100], 33, 5), ([122, 115, 117, 98], 34, 5), ([122, 109, 117, 108], 35, 5), ([122, 114, 101], 36, 6), ([122, 105, 109], 37, 6), ([122, 115, 101, 116], 38, 7), ([108, 105, 115], 48, 8), ([116, 114, 97, 112], 49, 9), ([108, 105], 50, 10), ([108, 100, 112], 51, 11), ([106, 109, 112], 64, 12), ([99, 97, 108, 108], 67, 12), ([106, 122], 70, 13), ([106, 110, 122], 73, 13)]
/-- the limits by shape -/
def shT : List (Int × Int × Int × Int × Int) := [(0, 0, 0, 0, 0), (0, 0, 0, 0, 1), (7, 0, 0, 0, 2), (3, 0, 0, 0, 2), (7, 7, 0, 0, 2), (3, 3, 0, 0, 2), (7, 3, 0, 0, 2), (3, 7, 0, 7, 3), (7, 0, -128, 127, 3), (0, 0, 0, 255, 2), (7, 0, -2147483648, 2147483647, 6), (7, 0, 0, 4095, 4), (0, 0, 0, 0, 1), (7, 0, 0, 0, 2)]

def opCells (x : List UInt8 × Int × Int) : List Value := [.string (str x.1), .int .u8 x.2.1, .int .i64 x.2.2]
def shCells (x : Int × Int × Int × Int × Int) : List Value := [.int .i64 x.1, .int .i64 x.2.1, .int .i32 x.2.2.1, .int .i32 x.2.2.2.1, .int .i64 x.2.2.2.2]

def nameAt (i : Nat) : List UInt8 := (opsT.getD i ([], 0, 0)).1
def byteAt (i : Nat) : Int := (opsT.getD i ([], 0, 0)).2.1
def shapeAt (i : Nat) : Int := (opsT.getD i ([], 0, 0)).2.2
def aMax (i : Nat) : Int := (shT.getD i (0, 0, 0, 0, 0)).1
def bMax (i : Nat) : Int := (shT.getD i (0, 0, 0, 0, 0)).2.1
def nMin (i : Nat) : Int := (shT.getD i (0, 0, 0, 0, 0)).2.2.1
def nMax (i : Nat) : Int := (shT.getD i (0, 0, 0, 0, 0)).2.2.2.1
def sizeAt (i : Nat) : Int := (shT.getD i (0, 0, 0, 0, 0)).2.2.2.2

theorem flat_at {α β : Type} (f : α → List β) (k : Nat) (hf : ∀ x, (f x).length = k) : ∀ (l : List α) (i j : Nat) (x : α), l[i]? = some x → j < k → (l.flatMap f)[i * k + j]? = (f x)[j]?
  | [], i, j, x, h, hj => by simp at h
  | y :: l, 0, j, x, h, hj => by
    simp only [List.getElem?_cons_zero, Option.some.injEq] at h
    subst h
    rw [List.flatMap_cons, Nat.zero_mul, Nat.zero_add, List.getElem?_append_left (by rw [hf]; exact hj)]
  | y :: l, i + 1, j, x, h, hj => by
    rw [List.flatMap_cons, List.getElem?_append_right (by rw [hf, Nat.succ_mul]; omega), hf, show (i + 1) * k + j - k = i * k + j by rw [Nat.succ_mul]; omega]
    exact flat_at f k hf l i j x (by simpa using h) hj

/-- a list that is cut into pieces of k is the pieces -/
theorem cut_flat {α β : Type} (f : α → List β) (k : Nat) (hk : 0 < k) (hf : ∀ x, (f x).length = k) : ∀ (l : List α) (cs : List β), cs.length = l.length * k → (∀ i x, l[i]? = some x → (cs.drop (i * k)).take k = f x) → cs = l.flatMap f
  | [], cs, hl, _ => by
    simp at hl
    simp [hl]
  | y :: l, cs, hl, h => by
    have h0 := h 0 y rfl
    rw [Nat.zero_mul, List.drop_zero] at h0
    rw [List.flatMap_cons, ← h0, ← cut_flat f k hk hf l (cs.drop k) (by simp only [List.length_drop, hl, List.length_cons, Nat.succ_mul]; omega) (fun i x hx => by
      have := h (i + 1) x (by simpa using hx)
      rw [List.drop_drop, ← this, Nat.succ_mul, Nat.add_comm])]
    exact (List.take_append_drop k cs).symm

/-- what the tables hold -/
def Tab (w : World) : Prop := (∃ t z, w.heap[1]? = some (.cells (opsT.flatMap opCells).toArray t z)) ∧ ∃ t z, w.heap[2]? = some (.cells (shT.flatMap shCells).toArray t z)

theorem Tab.size {w : World} (h : Tab w) : 3 ≤ w.heap.size := by
  obtain ⟨_, _, _, h⟩ := h
  exact (Array.getElem?_eq_some_iff.1 h).1

theorem Tab.below {w w' : World} {B : Nat} (h : Tab w) (hb : Below B w w') (hB : 3 ≤ B) : Tab w' := by
  obtain ⟨⟨t, z, h0⟩, t', z', h1⟩ := h
  exact ⟨⟨t, z, by rw [hb.block 1 (by omega)]; exact h0⟩, t', z', by rw [hb.block 2 (by omega)]; exact h1⟩

theorem opsT_at (i : Nat) (hi : i < 43) : opsT[i]? = some (nameAt i, byteAt i, shapeAt i) := by
  have h : opsT[i]? = some opsT[i] := List.getElem?_eq_getElem _
  rw [h, nameAt, byteAt, shapeAt, List.getD_eq_getElem?_getD, h]
  rfl
theorem shT_at (i : Nat) (hi : i < 14) : shT[i]? = some (aMax i, bMax i, nMin i, nMax i, sizeAt i) := by
  have h : shT[i]? = some shT[i] := List.getElem?_eq_getElem _
  rw [h, aMax, bMax, nMin, nMax, sizeAt, List.getD_eq_getElem?_getD, h]
  rfl

theorem cell_block {w : World} {b : Nat} {cs : Array Value} {t : TypeId} {z : _} (h : w.heap[b]? = some (.cells cs t z)) (j : Nat) : w.cell? ⟨b, j, none⟩ = cs[j]? := by
  unfold World.cell?
  rw [h]
  rfl

theorem Tab.op {w : World} (h : Tab w) (i : Nat) (hi : i < 43) : w.cell? ⟨1, i * 3, none⟩ = some (.string (str (nameAt i))) ∧ w.cell? ⟨1, i * 3 + 1, none⟩ = some (.int .u8 (byteAt i)) ∧ w.cell? ⟨1, i * 3 + 2, none⟩ = some (.int .i64 (shapeAt i)) := by
  obtain ⟨⟨t, z, h⟩, _⟩ := h
  have hf := flat_at opCells 3 (fun _ => rfl) opsT i
  have ho := opsT_at i hi
  rw [cell_block h, cell_block h, cell_block h, List.getElem?_toArray, List.getElem?_toArray, List.getElem?_toArray]
  refine ⟨?_, ?_, ?_⟩
  · exact (hf 0 _ ho (by omega)).trans rfl
  · exact (hf 1 _ ho (by omega)).trans rfl
  · exact (hf 2 _ ho (by omega)).trans rfl

theorem Tab.sh {w : World} (h : Tab w) (i : Nat) (hi : i < 14) : w.cell? ⟨2, i * 5, none⟩ = some (.int .i64 (aMax i)) ∧ w.cell? ⟨2, i * 5 + 1, none⟩ = some (.int .i64 (bMax i)) ∧ w.cell? ⟨2, i * 5 + 2, none⟩ = some (.int .i32 (nMin i)) ∧ w.cell? ⟨2, i * 5 + 3, none⟩ = some (.int .i32 (nMax i)) ∧ w.cell? ⟨2, i * 5 + 4, none⟩ = some (.int .i64 (sizeAt i)) := by
  obtain ⟨_, t, z, h⟩ := h
  have hf := flat_at shCells 5 (fun _ => rfl) shT i
  have ho := shT_at i hi
  rw [cell_block h, cell_block h, cell_block h, cell_block h, cell_block h, List.getElem?_toArray, List.getElem?_toArray, List.getElem?_toArray, List.getElem?_toArray, List.getElem?_toArray]
  refine ⟨?_, ?_, ?_, ?_, ?_⟩
  · exact (hf 0 _ ho (by omega)).trans rfl
  · exact (hf 1 _ ho (by omega)).trans rfl
  · exact (hf 2 _ ho (by omega)).trans rfl
  · exact (hf 3 _ ho (by omega)).trans rfl
  · exact (hf 4 _ ho (by omega)).trans rfl

/-- shapes are 1 to 13 -/
theorem shape_range (i : Nat) (hi : i < 43) : 1 ≤ shapeAt i ∧ shapeAt i ≤ 13 := by
  have : ∀ j : Fin 43, 1 ≤ shapeAt j.1 ∧ shapeAt j.1 ≤ 13 := by decide +kernel
  exact this ⟨i, hi⟩
theorem byte_range (i : Nat) (hi : i < 43) : 0 ≤ byteAt i ∧ byteAt i ≤ 73 := by
  have : ∀ j : Fin 43, 0 ≤ byteAt j.1 ∧ byteAt j.1 ≤ 73 := by decide +kernel
  exact this ⟨i, hi⟩
theorem name_short (i : Nat) (hi : i < 43) : (nameAt i).length ≤ 5 := by
  have : ∀ j : Fin 43, (nameAt j.1).length ≤ 5 := by decide +kernel
  exact this ⟨i, hi⟩

theorem gOps : Tryd.prog.globalNamed "spandrel/isa.ops" = some 1 := by kernel_rfl
theorem gSh : Tryd.prog.globalNamed "spandrel/isa.shapes" = some 2 := by kernel_rfl
theorem gOpsT : (Tryd.prog.globals[1]?).map (·.type) = some 111 := by kernel_rfl
theorem gShT : (Tryd.prog.globals[2]?).map (·.type) = some 114 := by kernel_rfl
theorem cells27 : Tryd.prog.cellsOf 88 = 3 := by kernel_rfl
theorem cells58 : Tryd.prog.cellsOf 113 = 5 := by kernel_rfl
theorem cells55 : Tryd.prog.cellsOf 111 = 129 := by kernel_rfl
theorem cells59 : Tryd.prog.cellsOf 114 = 70 := by kernel_rfl
theorem cells9 : Tryd.prog.cellsOf 9 = 1 := by kernel_rfl
theorem cells5 : Tryd.prog.cellsOf 5 = 1 := by kernel_rfl
theorem cells3 : Tryd.prog.cellsOf 3 = 1 := by kernel_rfl
theorem cells21 : Tryd.prog.cellsOf 21 = 1 := by kernel_rfl

def opData (x : List UInt8 × Int × Int) : DataW Unit := .agg [.lit (.string x.1), .lit (.int .u8 x.2.1), .lit (.int .i64 x.2.2)]
def shData (x : Int × Int × Int × Int × Int) : DataW Unit := .agg [.lit (.int .i64 x.1), .lit (.int .i64 x.2.1), .lit (.int .i32 x.2.2.1), .lit (.int .i32 x.2.2.2.1), .lit (.int .i64 x.2.2.2.2)]
theorem laid_ops : (Rows.laid_spandrel_isa_ops : DataW Unit) = .agg (opsT.map opData) := rfl
theorem laid_sh : (Rows.laid_spandrel_isa_shapes : DataW Unit) = .agg (shT.map shData) := rfl

section
variable {H : Type} {enc : TypeId × Value → H} {P : Program} {w : World} {base : Nat} {spare : Nat → Bool} {held : Bool}
theorem trod_struct5 {t : TypeId} {f0 f1 f2 f3 f4 : Field} {fuel : Nat} {cs : List Value} {x : DataW H × List MemPlace} (ht : P.underlying t = some (.struct #[f0, f1, f2, f3, f4])) (h : DataW.trod enc P w base spare held fuel t cs = some x) :
    ∃ y0 y1 y2 y3 y4 n, x = (.agg [y0.1, y1.1, y2.1, y3.1, y4.1], y0.2 ++ (y1.2 ++ (y2.2 ++ (y3.2 ++ y4.2)))) ∧ cs.length = P.cellsOf t ∧ DataW.trod enc P w base spare held n f0.type ((cs.drop f0.offset).take (P.cellsOf f0.type)) = some y0 ∧
      DataW.trod enc P w base spare held n f1.type ((cs.drop f1.offset).take (P.cellsOf f1.type)) = some y1 ∧ DataW.trod enc P w base spare held n f2.type ((cs.drop f2.offset).take (P.cellsOf f2.type)) = some y2 ∧
      DataW.trod enc P w base spare held n f3.type ((cs.drop f3.offset).take (P.cellsOf f3.type)) = some y3 ∧ DataW.trod enc P w base spare held n f4.type ((cs.drop f4.offset).take (P.cellsOf f4.type)) = some y4 := by
  obtain ⟨xs, n, _, rfl, hl, hlen, hf⟩ := DataW.trod_struct ht h
  match xs, hlen with
  | [y0, y1, y2, y3, y4], _ => exact ⟨y0, y1, y2, y3, y4, n, by simp, hl, by simpa using hf 0 f0 rfl, by simpa using hf 1 f1 rfl, by simpa using hf 2 f2 rfl, by simpa using hf 3 f3 rfl, by simpa using hf 4 f4 rfl⟩
end

theorem list3 {α : Type} {l : List α} (h : l.length = 3) : ∃ a b c, l = [a, b, c] := by
  match l, h with
  | [a, b, c], _ => exact ⟨a, b, c, rfl⟩
theorem list5 {α : Type} {l : List α} (h : l.length = 5) : ∃ a b c d e, l = [a, b, c, d, e] := by
  match l, h with
  | [a, b, c, d, e], _ => exact ⟨a, b, c, d, e, rfl⟩

theorem op_cells {w : World} {fuel : Nat} {cs : List Value} {p : List MemPlace} {x : List UInt8 × Int × Int} (h : DataW.trod (fun _ => ()) Tryd.prog w 0 (fun _ => true) false fuel 88 cs = some (opData x, p)) : cs = opCells x := by
  obtain ⟨y0, y1, y2, n, he, hl, t0, t1, t2⟩ := Deep.trod_struct3 Tryd.underlying88 h
  rw [cells27] at hl
  obtain ⟨c0, c1, c2, rfl⟩ := list3 hl
  simp only [cells9, cells5, cells3, List.drop, List.take] at t0 t1 t2
  obtain ⟨s, e0, e1, _⟩ := DataW.trod_string Tryd.underlying9 t0
  obtain ⟨z, e2, e3, _⟩ := DataW.trod_int Tryd.underlying5 t1
  obtain ⟨z', e4, e5, _⟩ := DataW.trod_int Tryd.underlying3 t2
  subst e1 e3 e5
  simp only [opData, Prod.mk.injEq, DataW.agg.injEq, List.cons.injEq, DataW.lit.injEq, Lit.string.injEq, Lit.int.injEq, and_true, true_and] at he
  simp only [List.cons.injEq, and_true] at e0 e2 e4
  subst e0 e2 e4
  obtain ⟨⟨h0, h1, h2⟩, _⟩ := he
  rw [opCells, h0, h1, h2]

theorem sh_cells {w : World} {fuel : Nat} {cs : List Value} {p : List MemPlace} {x : Int × Int × Int × Int × Int} (h : DataW.trod (fun _ => ()) Tryd.prog w 0 (fun _ => true) false fuel 113 cs = some (shData x, p)) : cs = shCells x := by
  obtain ⟨y0, y1, y2, y3, y4, n, he, hl, t0, t1, t2, t3, t4⟩ := trod_struct5 Tryd.underlying113 h
  rw [cells58] at hl
  obtain ⟨c0, c1, c2, c3, c4, rfl⟩ := list5 hl
  simp only [cells3, cells21, List.drop, List.take] at t0 t1 t2 t3 t4
  obtain ⟨z0, e0, e1, _⟩ := DataW.trod_int Tryd.underlying3 t0
  obtain ⟨z1, e2, e3, _⟩ := DataW.trod_int Tryd.underlying3 t1
  obtain ⟨z2, e4, e5, _⟩ := DataW.trod_int Tryd.underlying21 t2
  obtain ⟨z3, e6, e7, _⟩ := DataW.trod_int Tryd.underlying21 t3
  obtain ⟨z4, e8, e9, _⟩ := DataW.trod_int Tryd.underlying3 t4
  subst e1 e3 e5 e7 e9
  simp only [shData, Prod.mk.injEq, DataW.agg.injEq, List.cons.injEq, DataW.lit.injEq, Lit.int.injEq, and_true, true_and] at he
  simp only [List.cons.injEq, and_true] at e0 e2 e4 e6 e8
  subst e0 e2 e4 e6 e8
  obtain ⟨⟨h0, h1, h2, h3, h4⟩, _⟩ := he
  rw [shCells, h0, h1, h2, h3, h4]

theorem var_block {w : World} {n : String} {g : Nat} {cs : Array Value} (hg : Tryd.prog.globalNamed n = some g) (h : w.var? Tryd.prog n = some cs) : ∃ t z, w.heap[g]? = some (.cells cs t z) := by
  unfold World.var? at h
  rw [hg] at h
  simp only [Option.bind_some] at h
  split at h
  · rename_i cs' t z hb
    cases h
    exact ⟨t, z, hb⟩
  · cases h

/-- what the operations that do nothing else do -/
def kindsT : List Int := [0, 0, 5, 3] ++ List.replicate 36 0 ++ [1, 2]
def Kin (w : World) : Prop := ∃ t z, w.heap[0]? = some (.cells (kindsT.map fun k => Value.int .i64 k).toArray t z)
theorem Kin.below {w w' : World} (h : Kin w) (hl : 0 < w.heap.size) (hb : Below w.heap.size w w') : Kin w' := by
  obtain ⟨t, z, h⟩ := h
  exact ⟨t, z, (hb.block 0 hl).trans h⟩
theorem gKin : Tryd.prog.globalNamed "spandrel/cpu.kinds" = some 0 := by kernel_rfl
theorem gKinT : (Tryd.prog.globals[0]?).map (·.type) = some 93 := by kernel_rfl
theorem cells93 : Tryd.prog.cellsOf 93 = 42 := by kernel_rfl
theorem laid_kin : (Rows.laid_spandrel_cpu_kinds : DataW Unit) = .agg (kindsT.map fun k => DataW.lit (.int .i64 k)) := rfl

theorem tab_of_laid {W : World} (h : laidMet Tryd.prog [("spandrel/isa.ops", Rows.laid_spandrel_isa_ops), ("spandrel/isa.shapes", Rows.laid_spandrel_isa_shapes), ("spandrel/cpu.kinds", Rows.laid_spandrel_cpu_kinds)] W) : Tab W ∧ Kin W := by
  obtain ⟨ps, ⟨g, t, cs, fuel, p, q, hg, ht, hv, hd, ⟨g', t', cs', fuel', p', q', hg', ht', hv', hd', ⟨g2, t2, cs2, fuel2, p2, q2, hg2, ht2, hv2, hd2, _⟩, _⟩, _⟩, _⟩ := h
  obtain rfl := Option.some.inj (gOps.symm.trans hg)
  obtain rfl := Option.some.inj (gSh.symm.trans hg')
  obtain rfl := Option.some.inj (gOpsT.symm.trans ht)
  obtain rfl := Option.some.inj (gShT.symm.trans ht')
  rw [laid_ops] at hd
  rw [laid_sh] at hd'
  obtain rfl := Option.some.inj (gKin.symm.trans hg2)
  obtain rfl := Option.some.inj (gKinT.symm.trans ht2)
  rw [laid_kin] at hd2
  refine ⟨⟨?_, ?_⟩, ?_⟩
  · obtain ⟨xs, m, _, hx, hl, hn, hall⟩ := DataW.trod_array Tryd.underlying111 hd
    have hxs : xs.map (·.1) = opsT.map opData := by
      have := congrArg Prod.fst hx
      simpa using this.symm
    have : cs.toList = opsT.flatMap opCells := cut_flat opCells 3 (by omega) (fun _ => rfl) opsT cs.toList (by rw [hl, cells55]; rfl) fun i x hi => by
      have hi43 : i < 43 := (List.getElem?_eq_some_iff.1 hi).1
      have h1 := hall i hi43
      rw [cells27] at h1
      have h2 : (xs.map (·.1))[i]? = some (opData x) := by rw [hxs, List.getElem?_map, hi]; rfl
      rw [List.getElem?_map, Option.map_eq_some_iff] at h2
      obtain ⟨y, hy, hy2⟩ := h2
      rw [hy] at h1
      obtain ⟨y1, y2⟩ := y
      simp only at hy2
      subst hy2
      exact op_cells h1
    obtain ⟨t, z, hb⟩ := var_block hg hv
    exact ⟨t, z, by rw [hb, ← this]⟩
  · obtain ⟨xs, m, _, hx, hl, hn, hall⟩ := DataW.trod_array Tryd.underlying114 hd'
    have hxs : xs.map (·.1) = shT.map shData := by
      have := congrArg Prod.fst hx
      simpa using this.symm
    have : cs'.toList = shT.flatMap shCells := cut_flat shCells 5 (by omega) (fun _ => rfl) shT cs'.toList (by rw [hl, cells59]; rfl) fun i x hi => by
      have hi43 : i < 14 := (List.getElem?_eq_some_iff.1 hi).1
      have h1 := hall i hi43
      rw [cells58] at h1
      have h2 : (xs.map (·.1))[i]? = some (shData x) := by rw [hxs, List.getElem?_map, hi]; rfl
      rw [List.getElem?_map, Option.map_eq_some_iff] at h2
      obtain ⟨y, hy, hy2⟩ := h2
      rw [hy] at h1
      obtain ⟨y1, y2⟩ := y
      simp only at hy2
      subst hy2
      exact sh_cells h1
    obtain ⟨t, z, hb⟩ := var_block hg' hv'
    exact ⟨t, z, by rw [hb, ← this]⟩
  · obtain ⟨xs, m, _, hx, hl, hn, hall⟩ := DataW.trod_array Tryd.underlying93 hd2
    have hxs : xs.map (·.1) = kindsT.map fun k => DataW.lit (.int .i64 k) := by
      have := congrArg Prod.fst hx
      simpa using this.symm
    have e1 : (kindsT.flatMap fun k => [Value.int .i64 k]) = kindsT.map fun k => Value.int .i64 k := rfl
    have : cs2.toList = kindsT.flatMap fun k => [Value.int .i64 k] := cut_flat (fun k => [Value.int .i64 k]) 1 (by omega) (fun _ => rfl) kindsT cs2.toList (by rw [hl, cells93]; rfl) fun i x hi => by
      have hi43 : i < 42 := (List.getElem?_eq_some_iff.1 hi).1
      have h1 := hall i hi43
      rw [cells3] at h1
      have h2 : (xs.map (·.1))[i]? = some (.lit (.int .i64 x)) := by rw [hxs, List.getElem?_map, hi]; rfl
      rw [List.getElem?_map, Option.map_eq_some_iff] at h2
      obtain ⟨y, hy, hy2⟩ := h2
      rw [hy] at h1
      obtain ⟨y1, y2⟩ := y
      simp only at hy2
      subst hy2
      obtain ⟨z, e0, e1, _⟩ := DataW.trod_int Tryd.underlying3 h1
      simp only [Prod.mk.injEq, DataW.lit.injEq, Lit.int.injEq, true_and] at e1
      rw [e0]
      obtain rfl := e1.1
      rfl
    obtain ⟨t, z, hb⟩ := var_block hg2 hv2
    exact ⟨t, z, by rw [hb, ← e1, ← this]⟩
end Go.Proofs.YtlchefdddgbohaaDoor
