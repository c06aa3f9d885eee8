/- The two tables of isa as lists; that a world in which they are laid has them. -/
import Derived.Test.YtddjakcglflonaaGreatDoorEvY
import Derived.Test.YtddjakcglflonaaGreatDoorRows
import Derived.WalkKit
import Derived.ProofKit
import Derived.OpenShut
import Derived.Below
import Derived.Handy
import Derived.Lib.LaidTab
import Derived.Stop.LaidErr
import Derived.Deep.Strs
namespace Go.Proofs.YtddjakcglflonaaGreatDoor
open Go.ChangeShapes Go.WideShapes Go.ChangeAt Go.RowKit Go.Ev
set_option linter.unusedVariables false
set_option maxRecDepth 100000

abbrev istr (l : List UInt8) : ByteArray := ⟨l.toArray⟩

/-- the operations: name, first byte, shape -/
def opsT : List (List UInt8 × Int × Int) := [([110, 111, 112], 0, 1), ([104, 97, 108, 116], 1, 1), ([114, 101, 116], 2, 1), ([112, 114, 105, 110, 116], 3, 2), ([105, 110], 4, 2), ([112, 117, 115, 104], 5, 2), ([112, 111, 112], 6, 2), ([106, 114], 7, 2), ([110, 101, 103], 8, 2), ([110, 111, 116], 9, 2), ([122, 116, 117, 114, 110], 10, 3), ([122, 99, 111, 110, 106], 11, 3), ([109, 111, 118], 16, 4), ([97, 100, 100], 17, 4), ([115, 117, 98], 18, 4), ([109, 117, 108], 19, 4), ([100, 105, 118], 20, 4), ([97, 110, 100], 21, 4), ([111, 114], 22, 4), ([120, 111, 114], 23, 4), ([115, 104, 108], 24, 4), ([115, 104, 114], 25, 4), ([108, 116], 26, 4), ([101, 113], 27, 4), ([108, 100, 98], 28, 4), ([108, 100, 119], 29, 4), ([108, 100, 109], 30, 4), ([115, 116, 109], 31, 4), ([122, 109, 111, 118], 32, 5), ([122, 97, 100, 100], 33, 5), ([122, 115, 117, 98], 34, 5), ([122, 109, 117, 108], 35, 5), ([122, 114, 101], 36, 6), ([122, 105, 109], 37, 6), ([122, 115, 101, 116], 38, 7), ([108, 105, 115], 48, 8), ([116, 114, 97, 112], 49, 9), ([108, 105], 50, 10), ([108, 100, 112], 51, 11), ([106, 109, 112], 64, 12), ([99, 97, 108, 108], 67, 12), ([106, 122], 70, 13), ([106, 110, 122], 73, 13)]
/-- the limits by shape -/
def shT : List (Int × Int × Int × Int × Int) := [(0, 0, 0, 0, 0), (0, 0, 0, 0, 1), (7, 0, 0, 0, 2), (3, 0, 0, 0, 2), (7, 7, 0, 0, 2), (3, 3, 0, 0, 2), (7, 3, 0, 0, 2), (3, 7, 0, 7, 3), (7, 0, -128, 127, 3), (0, 0, 0, 255, 2), (7, 0, -2147483648, 2147483647, 6), (7, 0, 0, 4095, 4), (0, 0, 0, 0, 1), (7, 0, 0, 0, 2)]

def opCells (x : List UInt8 × Int × Int) : List Value := [.string (istr x.1), .int .u8 x.2.1, .int .i64 x.2.2]
def shCells (x : Int × Int × Int × Int × Int) : List Value := [.int .i64 x.1, .int .i64 x.2.1, .int .i32 x.2.2.1, .int .i32 x.2.2.2.1, .int .i64 x.2.2.2.2]

theorem flat_at {α β : Type} (f : α → List β) (k : Nat) (hf : ∀ x, (f x).length = k) : ∀ (l : List α) (i j : Nat) (x : α), l[i]? = some x → j < k → (l.flatMap f)[i * k + j]? = (f x)[j]?
  | [], i, j, x, h, hj => by simp at h
  | y :: l, 0, j, x, h, hj => by
    simp only [List.getElem?_cons_zero, Option.some.injEq] at h
    subst h
    rw [List.flatMap_cons, Nat.zero_mul, Nat.zero_add, List.getElem?_append_left (by rw [hf]; exact hj)]
  | y :: l, i + 1, j, x, h, hj => by
    rw [List.flatMap_cons, List.getElem?_append_right (by rw [hf, Nat.succ_mul]; omega), hf, show (i + 1) * k + j - k = i * k + j by rw [Nat.succ_mul]; omega]
    exact flat_at f k hf l i j x (by simpa using h) hj

/-- a list that is cut into pieces of k is the pieces -/
theorem cut_flat {α β : Type} (f : α → List β) (k : Nat) (hk : 0 < k) (hf : ∀ x, (f x).length = k) : ∀ (l : List α) (cs : List β), cs.length = l.length * k → (∀ i x, l[i]? = some x → (cs.drop (i * k)).take k = f x) → cs = l.flatMap f
  | [], cs, hl, _ => by
    simp at hl
    simp [hl]
  | y :: l, cs, hl, h => by
    have h0 := h 0 y rfl
    rw [Nat.zero_mul, List.drop_zero] at h0
    rw [List.flatMap_cons, ← h0, ← cut_flat f k hk hf l (cs.drop k) (by simp only [List.length_drop, hl, List.length_cons, Nat.succ_mul]; omega) (fun i x hx => by
      have := h (i + 1) x (by simpa using hx)
      rw [List.drop_drop, ← this, Nat.succ_mul, Nat.add_comm])]
    exact (List.take_append_drop k cs).symm

/-- what the tables hold -/
def Tab (w : World) : Prop := (∃ t z, w.heap[0]? = some (.cells (opsT.flatMap opCells).toArray t z)) ∧ ∃ t z, w.heap[5]? = some (.cells (shT.flatMap shCells).toArray t z)
abbrev laid7 : List (String × DataW Unit) := [("math/bits.deBruijn32tab", Rows.laid_math_bits_deBruijn32tab), ("math/bits.deBruijn64tab", Rows.laid_math_bits_deBruijn64tab), ("internal/strconv.uint64pow10", Rows.laid_internal_strconv_uint64pow10), ("spandrel/isa.ops", Rows.laid_spandrel_isa_ops), ("spandrel/isa.shapes", Rows.laid_spandrel_isa_shapes), ("strconv.ErrRange", Rows.laid_strconv_ErrRange), ("strconv.ErrSyntax", Rows.laid_strconv_ErrSyntax)]
theorem gOps : Tryz.prog.globalNamed "spandrel/isa.ops" = some 0 := by kernel_rfl
theorem gSh : Tryz.prog.globalNamed "spandrel/isa.shapes" = some 5 := by kernel_rfl
theorem gOpsT : (Tryz.prog.globals[0]?).map (·.type) = some 217 := by kernel_rfl
theorem gShT : (Tryz.prog.globals[5]?).map (·.type) = some 337 := by kernel_rfl
theorem cells27 : Tryz.prog.cellsOf 179 = 3 := by kernel_rfl
theorem cells58 : Tryz.prog.cellsOf 336 = 5 := by kernel_rfl
theorem cells55 : Tryz.prog.cellsOf 217 = 129 := by kernel_rfl
theorem cells59 : Tryz.prog.cellsOf 337 = 70 := by kernel_rfl
theorem icells9 : Tryz.prog.cellsOf 9 = 1 := by kernel_rfl
theorem cells5 : Tryz.prog.cellsOf 5 = 1 := by kernel_rfl
theorem cells3 : Tryz.prog.cellsOf 3 = 1 := by kernel_rfl
theorem cells21 : Tryz.prog.cellsOf 21 = 1 := by kernel_rfl

def opData (x : List UInt8 × Int × Int) : DataW Unit := .agg [.lit (.string x.1), .lit (.int .u8 x.2.1), .lit (.int .i64 x.2.2)]
def shData (x : Int × Int × Int × Int × Int) : DataW Unit := .agg [.lit (.int .i64 x.1), .lit (.int .i64 x.2.1), .lit (.int .i32 x.2.2.1), .lit (.int .i32 x.2.2.2.1), .lit (.int .i64 x.2.2.2.2)]
theorem laid_ops : (Rows.laid_spandrel_isa_ops : DataW Unit) = .agg (opsT.map opData) := rfl
theorem laid_sh : (Rows.laid_spandrel_isa_shapes : DataW Unit) = .agg (shT.map shData) := rfl

section
variable {H : Type} {enc : TypeId × Value → H} {P : Program} {w : World} {base : Nat} {spare : Nat → Bool} {held : Bool}
theorem trod_struct5 {t : TypeId} {f0 f1 f2 f3 f4 : Field} {fuel : Nat} {cs : List Value} {x : DataW H × List MemPlace} (ht : P.underlying t = some (.struct #[f0, f1, f2, f3, f4])) (h : DataW.trod enc P w base spare held fuel t cs = some x) :
    ∃ y0 y1 y2 y3 y4 n, x = (.agg [y0.1, y1.1, y2.1, y3.1, y4.1], y0.2 ++ (y1.2 ++ (y2.2 ++ (y3.2 ++ y4.2)))) ∧ cs.length = P.cellsOf t ∧ DataW.trod enc P w base spare held n f0.type ((cs.drop f0.offset).take (P.cellsOf f0.type)) = some y0 ∧
      DataW.trod enc P w base spare held n f1.type ((cs.drop f1.offset).take (P.cellsOf f1.type)) = some y1 ∧ DataW.trod enc P w base spare held n f2.type ((cs.drop f2.offset).take (P.cellsOf f2.type)) = some y2 ∧
      DataW.trod enc P w base spare held n f3.type ((cs.drop f3.offset).take (P.cellsOf f3.type)) = some y3 ∧ DataW.trod enc P w base spare held n f4.type ((cs.drop f4.offset).take (P.cellsOf f4.type)) = some y4 := by
  obtain ⟨xs, n, _, rfl, hl, hlen, hf⟩ := DataW.trod_struct ht h
  match xs, hlen with
  | [y0, y1, y2, y3, y4], _ => exact ⟨y0, y1, y2, y3, y4, n, by simp, hl, by simpa using hf 0 f0 rfl, by simpa using hf 1 f1 rfl, by simpa using hf 2 f2 rfl, by simpa using hf 3 f3 rfl, by simpa using hf 4 f4 rfl⟩
end

theorem list3 {α : Type} {l : List α} (h : l.length = 3) : ∃ a b c, l = [a, b, c] := by
  match l, h with
  | [a, b, c], _ => exact ⟨a, b, c, rfl⟩
theorem list5 {α : Type} {l : List α} (h : l.length = 5) : ∃ a b c d e, l = [a, b, c, d, e] := by
  match l, h with
  | [a, b, c, d, e], _ => exact ⟨a, b, c, d, e, rfl⟩

theorem op_cells {w : World} {fuel : Nat} {cs : List Value} {p : List MemPlace} {x : List UInt8 × Int × Int} (h : DataW.trod (fun _ => ()) Tryz.prog w 0 (fun _ => true) false fuel 179 cs = some (opData x, p)) : cs = opCells x := by
  obtain ⟨y0, y1, y2, n, he, hl, t0, t1, t2⟩ := Deep.trod_struct3 Tryz.underlying179 h
  rw [cells27] at hl
  obtain ⟨c0, c1, c2, rfl⟩ := list3 hl
  simp only [icells9, cells5, cells3, List.drop, List.take] at t0 t1 t2
  obtain ⟨s, e0, e1, _⟩ := DataW.trod_string Tryz.underlying9 t0
  obtain ⟨z, e2, e3, _⟩ := DataW.trod_int Tryz.underlying5 t1
  obtain ⟨z', e4, e5, _⟩ := DataW.trod_int Tryz.underlying3 t2
  subst e1 e3 e5
  simp only [opData, Prod.mk.injEq, DataW.agg.injEq, List.cons.injEq, DataW.lit.injEq, Lit.string.injEq, Lit.int.injEq, and_true, true_and] at he
  simp only [List.cons.injEq, and_true] at e0 e2 e4
  subst e0 e2 e4
  obtain ⟨⟨h0, h1, h2⟩, _⟩ := he
  rw [opCells, h0, h1, h2]

theorem sh_cells {w : World} {fuel : Nat} {cs : List Value} {p : List MemPlace} {x : Int × Int × Int × Int × Int} (h : DataW.trod (fun _ => ()) Tryz.prog w 0 (fun _ => true) false fuel 336 cs = some (shData x, p)) : cs = shCells x := by
  obtain ⟨y0, y1, y2, y3, y4, n, he, hl, t0, t1, t2, t3, t4⟩ := trod_struct5 Tryz.underlying336 h
  rw [cells58] at hl
  obtain ⟨c0, c1, c2, c3, c4, rfl⟩ := list5 hl
  simp only [cells3, cells21, List.drop, List.take] at t0 t1 t2 t3 t4
  obtain ⟨z0, e0, e1, _⟩ := DataW.trod_int Tryz.underlying3 t0
  obtain ⟨z1, e2, e3, _⟩ := DataW.trod_int Tryz.underlying3 t1
  obtain ⟨z2, e4, e5, _⟩ := DataW.trod_int Tryz.underlying21 t2
  obtain ⟨z3, e6, e7, _⟩ := DataW.trod_int Tryz.underlying21 t3
  obtain ⟨z4, e8, e9, _⟩ := DataW.trod_int Tryz.underlying3 t4
  subst e1 e3 e5 e7 e9
  simp only [shData, Prod.mk.injEq, DataW.agg.injEq, List.cons.injEq, DataW.lit.injEq, Lit.int.injEq, and_true, true_and] at he
  simp only [List.cons.injEq, and_true] at e0 e2 e4 e6 e8
  subst e0 e2 e4 e6 e8
  obtain ⟨⟨h0, h1, h2, h3, h4⟩, _⟩ := he
  rw [shCells, h0, h1, h2, h3, h4]

theorem var_block {w : World} {n : String} {g : Nat} {cs : Array Value} (hg : Tryz.prog.globalNamed n = some g) (h : w.var? Tryz.prog n = some cs) : ∃ t z, w.heap[g]? = some (.cells cs t z) := by
  unfold World.var? at h
  rw [hg] at h
  simp only [Option.bind_some] at h
  split at h
  · rename_i cs' t z hb
    cases h
    exact ⟨t, z, hb⟩
  · cases h

theorem tab_of_laid {W : World} (h : laidMet Tryz.prog laid7 W) : Tab W := by
  obtain ⟨ps, ⟨_, _, _, _, _, _, _, _, _, _, ⟨_, _, _, _, _, _, _, _, _, _, ⟨_, _, _, _, _, _, _, _, _, _, ⟨g, t, cs, fuel, p, q, hg, ht, hv, hd, ⟨g', t', cs', fuel', p', q', hg', ht', hv', hd', _⟩, _⟩, _⟩, _⟩, _⟩, _⟩ := h
  obtain rfl := Option.some.inj (gOps.symm.trans hg)
  obtain rfl := Option.some.inj (gSh.symm.trans hg')
  obtain rfl := Option.some.inj (gOpsT.symm.trans ht)
  obtain rfl := Option.some.inj (gShT.symm.trans ht')
  rw [laid_ops] at hd
  rw [laid_sh] at hd'
  constructor
  · obtain ⟨xs, m, _, hx, hl, hn, hall⟩ := DataW.trod_array Tryz.underlying217 hd
    have hxs : xs.map (·.1) = opsT.map opData := by
      have := congrArg Prod.fst hx
      simpa using this.symm
    have : cs.toList = opsT.flatMap opCells := cut_flat opCells 3 (by omega) (fun _ => rfl) opsT cs.toList (by rw [hl, cells55]; rfl) fun i x hi => by
      have hi43 : i < 43 := (List.getElem?_eq_some_iff.1 hi).1
      have h1 := hall i hi43
      rw [cells27] at h1
      have h2 : (xs.map (·.1))[i]? = some (opData x) := by rw [hxs, List.getElem?_map, hi]; rfl
      rw [List.getElem?_map, Option.map_eq_some_iff] at h2
      obtain ⟨y, hy, hy2⟩ := h2
      rw [hy] at h1
      obtain ⟨y1, y2⟩ := y
      simp only at hy2
      subst hy2
      exact op_cells h1
    obtain ⟨t, z, hb⟩ := var_block hg hv
    exact ⟨t, z, by rw [hb, ← this]⟩
  · obtain ⟨xs, m, _, hx, hl, hn, hall⟩ := DataW.trod_array Tryz.underlying337 hd'
    have hxs : xs.map (·.1) = shT.map shData := by
      have := congrArg Prod.fst hx
      simpa using this.symm
    have : cs'.toList = shT.flatMap shCells := cut_flat shCells 5 (by omega) (fun _ => rfl) shT cs'.toList (by rw [hl, cells59]; rfl) fun i x hi => by
      have hi43 : i < 14 := (List.getElem?_eq_some_iff.1 hi).1
      have h1 := hall i hi43
      rw [cells58] at h1
      have h2 : (xs.map (·.1))[i]? = some (shData x) := by rw [hxs, List.getElem?_map, hi]; rfl
      rw [List.getElem?_map, Option.map_eq_some_iff] at h2
      obtain ⟨y, hy, hy2⟩ := h2
      rw [hy] at h1
      obtain ⟨y1, y2⟩ := y
      simp only at hy2
      subst hy2
      exact sh_cells h1
    obtain ⟨t, z, hb⟩ := var_block hg' hv'
    exact ⟨t, z, by rw [hb, ← this]⟩
def bs (l : List UInt8) : Value := .string ⟨l.toArray⟩
def tabOps : List Value := [bs [110, 111, 112], .int .u8 0, .int .i64 1, bs [104, 97, 108, 116], .int .u8 1, .int .i64 1, bs [114, 101, 116], .int .u8 2, .int .i64 1, bs [112, 114, 105, 110, 116], .int .u8 3, .int .i64 2, bs [105, 110], .int .u8 4, .int .i64 2, bs [112, 117, 115, 104], .int .u8 5, .int .i64 2, bs [112, 111, 112], .int .u8 6, .int .i64 2, bs [106, 114], .int .u8 7, .int .i64 2, bs [110, 101, 103], .int .u8 8, .int .i64 2, bs [110, 111, 116], .int .u8 9, .int .i64 2, bs [122, 116, 117, 114, 110], .int .u8 10, .int .i64 3, bs [122, 99, 111, 110, 106], .int .u8 11, .int .i64 3, bs [109, 111, 118], .int .u8 16, .int .i64 4, bs [97, 100, 100], .int .u8 17, .int .i64 4, bs [115, 117, 98], .int .u8 18, .int .i64 4, bs [109, 117, 108], .int .u8 19, .int .i64 4, bs [100, 105, 118], .int .u8 20, .int .i64 4, bs [97, 110, 100], .int .u8 21, .int .i64 4, bs [111, 114], .int .u8 22, .int .i64 4, bs [120, 111, 114], .int .u8 23, .int .i64 4, bs [115, 104, 108], .int .u8 24, .int .i64 4, bs [115, 104, 114], .int .u8 25, .int .i64 4, bs [108, 116], .int .u8 26, .int .i64 4, bs [101, 113], .int .u8 27, .int .i64 4, bs [108, 100, 98], .int .u8 28, .int .i64 4, bs [108, 100, 119], .int .u8 29, .int .i64 4, bs [108, 100, 109], .int .u8 30, .int .i64 4, bs [115, 116, 109], .int .u8 31, .int .i64 4, bs [122, 109, 111, 118], .int .u8 32, .int .i64 5, bs [122, 97, 100, 100], .int .u8 33, .int .i64 5, bs [122, 115, 117, 98], .int .u8 34, .int .i64 5, bs [122, 109, 117, 108], .int .u8 35, .int .i64 5, bs [122, 114, 101], .int .u8 36, .int .i64 6, bs [122, 105, 109], .int .u8 37, .int .i64 6, bs [122, 115, 101, 116], .int .u8 38, .int .i64 7, bs [108, 105, 115], .int .u8 48, .int .i64 8, bs [116, 114, 97, 112], .int .u8 49, .int .i64 9, bs [108, 105], .int .u8 50, .int .i64 10, bs [108, 100, 112], .int .u8 51, .int .i64 11, bs [106, 109, 112], .int .u8 64, .int .i64 12, bs [99, 97, 108, 108], .int .u8 67, .int .i64 12, bs [106, 122], .int .u8 70, .int .i64 13, bs [106, 110, 122], .int .u8 73, .int .i64 13]
def tabSh : List Value := [.int .i64 0, .int .i64 0, .int .i32 0, .int .i32 0, .int .i64 0, .int .i64 0, .int .i64 0, .int .i32 0, .int .i32 0, .int .i64 1, .int .i64 7, .int .i64 0, .int .i32 0, .int .i32 0, .int .i64 2, .int .i64 3, .int .i64 0, .int .i32 0, .int .i32 0, .int .i64 2, .int .i64 7, .int .i64 7, .int .i32 0, .int .i32 0, .int .i64 2, .int .i64 3, .int .i64 3, .int .i32 0, .int .i32 0, .int .i64 2, .int .i64 7, .int .i64 3, .int .i32 0, .int .i32 0, .int .i64 2, .int .i64 3, .int .i64 7, .int .i32 0, .int .i32 7, .int .i64 3, .int .i64 7, .int .i64 0, .int .i32 (-128), .int .i32 127, .int .i64 3, .int .i64 0, .int .i64 0, .int .i32 0, .int .i32 255, .int .i64 2, .int .i64 7, .int .i64 0, .int .i32 (-2147483648), .int .i32 2147483647, .int .i64 6, .int .i64 7, .int .i64 0, .int .i32 0, .int .i32 4095, .int .i64 4, .int .i64 0, .int .i64 0, .int .i32 0, .int .i32 0, .int .i64 1, .int .i64 7, .int .i64 0, .int .i32 0, .int .i32 0, .int .i64 2]
theorem tabOps_is : tabOps = opsT.flatMap opCells := rfl
theorem tabSh_is : tabSh = shT.flatMap shCells := rfl
noncomputable def tabs : Tr (List Value) := ((Tr.lf : Tr (List Value)).put 40 0 tabOps).put 40 5 tabSh
theorem tabs_is {w : World} (h : Tab w) : TabIs tabs w := by
  intro k l hk
  unfold tabs at hk
  rw [Tr.get_put 40 _ _ _ _ (by omega), Tr.get_put 40 _ _ _ _ (by omega)] at hk
  by_cases e : k = 5
  · subst e
    rw [if_pos rfl] at hk
    cases hk
    obtain ⟨_, t, z, h1⟩ := h
    exact ⟨_, t, z, h1, by rw [← tabSh_is]; exact A2.lits (by decide +kernel)⟩
  · rw [if_neg e] at hk
    by_cases e2 : k = 0
    · subst e2
      rw [if_pos rfl] at hk
      cases hk
      obtain ⟨⟨t, z, h1⟩, _⟩ := h
      exact ⟨_, t, z, h1, by rw [← tabOps_is]; exact A2.lits (by decide +kernel)⟩
    · rw [if_neg e2] at hk
      cases hk
end Go.Proofs.YtddjakcglflonaaGreatDoor
