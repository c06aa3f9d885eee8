/- How a Unit that came in is opened: items, equs, names lie in memory; what the bound on its bulk gives. -/
import Derived.Test.YtmndccbeddaphaaGreatDoorIFind
import Derived.Test.YtmndccbeddaphaaGreatDoorRfe
import Derived.Test.YtmndccbeddaphaaGreatDoorObn1
import Derived.Test.YtmndccbeddaphaaGreatDoorCards
import Derived.Test.YtmndccbeddaphaaGreatDoorTie
import Derived.WalkKit
import Derived.ProofKit
import Derived.OpenShut
import Derived.Below
import Derived.Handy
import Derived.Lib.LaidTab
import Derived.Stop.LaidErr
import Derived.Deep.Strs
import Derived.LaidLaws
import Derived.LaidHandle
import Derived.ShutString
import Derived.ChangeOld
import Derived.ChangeArms
import Derived.JoinedCond
import Derived.Deep.DeepHandedRow
import Derived.Test.YtmndccbeddaphaaGreatDoorOcMath
import Derived.Test.YtmndccbeddaphaaGreatDoorOrd4
import Derived.Deep.SlicePairs
import Derived.Lib.SmallJoins
namespace Go.Proofs.YtmndccbeddaphaaGreatDoor
open Go.ChangeShapes Go.WideShapes Go.ChangeAt Go.RowKit
set_option linter.unusedVariables false
set_option maxRecDepth 100000
theorem cut_flat {α β : Type} (f : α → List β) (k : Nat) (hk : 0 < k) (hf : ∀ x, (f x).length = k) : ∀ (l : List α) (cs : List β), cs.length = l.length * k → (∀ i x, l[i]? = some x → (cs.drop (i * k)).take k = f x) → cs = l.flatMap f
  | [], cs, hl, _ => by
    simp at hl
    simp [hl]
  | y :: l, cs, hl, h => by
    have h0 := h 0 y rfl
    rw [Nat.zero_mul, List.drop_zero] at h0
    rw [List.flatMap_cons, ← h0, ← cut_flat f k hk hf l (cs.drop k) (by simp only [List.length_drop, hl, List.length_cons, Nat.succ_mul]; omega) (fun i x hx => by
      have := h (i + 1) x (by simpa using hx)
      rw [List.drop_drop, ← this, Nat.succ_mul, Nat.add_comm])]
    exact (List.take_append_drop k cs).symm
theorem gOps : Tryz.prog.globalNamed "spandrel/isa.ops" = some 0 := by kernel_rfl
theorem gSh : Tryz.prog.globalNamed "spandrel/isa.shapes" = some 2 := by kernel_rfl
theorem gOpsT : (Tryz.prog.globals[0]?).map (·.type) = some 237 := by kernel_rfl
theorem gShT : (Tryz.prog.globals[2]?).map (·.type) = some 243 := by kernel_rfl
theorem cells27 : Tryz.prog.cellsOf 221 = 3 := by kernel_rfl
theorem cells58 : Tryz.prog.cellsOf 242 = 5 := by kernel_rfl
theorem cells55 : Tryz.prog.cellsOf 237 = 129 := by kernel_rfl
theorem cells59 : Tryz.prog.cellsOf 243 = 70 := by kernel_rfl
theorem icells9 : Tryz.prog.cellsOf 9 = 1 := by kernel_rfl
theorem cells5 : Tryz.prog.cellsOf 5 = 1 := by kernel_rfl
theorem cells3 : Tryz.prog.cellsOf 3 = 1 := by kernel_rfl
theorem cells21 : Tryz.prog.cellsOf 21 = 1 := by kernel_rfl
def opData (x : List UInt8 × Int × Int) : DataW Unit := .agg [.lit (.string x.1), .lit (.int .u8 x.2.1), .lit (.int .i64 x.2.2)]
def shData (x : Int × Int × Int × Int × Int) : DataW Unit := .agg [.lit (.int .i64 x.1), .lit (.int .i64 x.2.1), .lit (.int .i32 x.2.2.1), .lit (.int .i32 x.2.2.2.1), .lit (.int .i64 x.2.2.2.2)]
theorem laid_ops : (Rows.laid_spandrel_isa_ops : DataW Unit) = .agg (opsT.map opData) := rfl
theorem laid_sh : (Rows.laid_spandrel_isa_shapes : DataW Unit) = .agg (shT.map shData) := rfl
section
variable {H : Type} {enc : TypeId × Value → H} {P : Program} {w : World} {base : Nat} {spare : Nat → Bool} {held : Bool}
end
theorem list5 {α : Type} {l : List α} (h : l.length = 5) : ∃ a b c d e, l = [a, b, c, d, e] := by
  match l, h with
  | [a, b, c, d, e], _ => exact ⟨a, b, c, d, e, rfl⟩
theorem op_cells {w : World} {fuel : Nat} {cs : List Value} {p : List MemPlace} {x : List UInt8 × Int × Int} (h : DataW.trod (fun _ => ()) Tryz.prog w 0 (fun _ => true) false fuel 221 cs = some (opData x, p)) : cs = opCells x := by
  obtain ⟨y0, y1, y2, n, he, hl, t0, t1, t2⟩ := Deep.trod_struct3 Tryz.underlying221 h
  rw [cells27] at hl
  obtain ⟨c0, c1, c2, rfl⟩ := list3 hl
  simp only [icells9, cells5, cells3, List.drop, List.take] at t0 t1 t2
  obtain ⟨s, e0, e1, _⟩ := DataW.trod_string Tryz.underlying9 t0
  obtain ⟨z, e2, e3, _⟩ := DataW.trod_int Tryz.underlying5 t1
  obtain ⟨z', e4, e5, _⟩ := DataW.trod_int Tryz.underlying3 t2
  subst e1 e3 e5
  simp only [opData, Prod.mk.injEq, DataW.agg.injEq, List.cons.injEq, DataW.lit.injEq, Lit.string.injEq, Lit.int.injEq, and_true, true_and] at he
  simp only [List.cons.injEq, and_true] at e0 e2 e4
  subst e0 e2 e4
  obtain ⟨⟨h0, h1, h2⟩, _⟩ := he
  rw [opCells, h0, h1, h2]
theorem sh_cells {w : World} {fuel : Nat} {cs : List Value} {p : List MemPlace} {x : Int × Int × Int × Int × Int} (h : DataW.trod (fun _ => ()) Tryz.prog w 0 (fun _ => true) false fuel 242 cs = some (shData x, p)) : cs = shCells x := by
  obtain ⟨y0, y1, y2, y3, y4, n, he, hl, t0, t1, t2, t3, t4⟩ := trod_struct5 Tryz.underlying242 h
  rw [cells58] at hl
  obtain ⟨c0, c1, c2, c3, c4, rfl⟩ := list5 hl
  simp only [cells3, cells21, List.drop, List.take] at t0 t1 t2 t3 t4
  obtain ⟨z0, e0, e1, _⟩ := DataW.trod_int Tryz.underlying3 t0
  obtain ⟨z1, e2, e3, _⟩ := DataW.trod_int Tryz.underlying3 t1
  obtain ⟨z2, e4, e5, _⟩ := DataW.trod_int Tryz.underlying21 t2
  obtain ⟨z3, e6, e7, _⟩ := DataW.trod_int Tryz.underlying21 t3
  obtain ⟨z4, e8, e9, _⟩ := DataW.trod_int Tryz.underlying3 t4
  subst e1 e3 e5 e7 e9
  simp only [shData, Prod.mk.injEq, DataW.agg.injEq, List.cons.injEq, DataW.lit.injEq, Lit.int.injEq, and_true, true_and] at he
  simp only [List.cons.injEq, and_true] at e0 e2 e4 e6 e8
  subst e0 e2 e4 e6 e8
  obtain ⟨⟨h0, h1, h2, h3, h4⟩, _⟩ := he
  rw [shCells, h0, h1, h2, h3, h4]
theorem var_block {w : World} {n : String} {g : Nat} {cs : Array Value} (hg : Tryz.prog.globalNamed n = some g) (h : w.var? Tryz.prog n = some cs) : ∃ t z, w.heap[g]? = some (.cells cs t z) := by
  unfold World.var? at h
  rw [hg] at h
  simp only [Option.bind_some] at h
  split at h
  · rename_i cs' t z hb
    cases h
    exact ⟨t, z, hb⟩
  · cases h
theorem tab_of_laid {W : World} (h : laidMet Tryz.prog [("math/bits.deBruijn32tab", Rows.laid_math_bits_deBruijn32tab), ("math/bits.deBruijn64tab", Rows.laid_math_bits_deBruijn64tab), ("internal/strconv.uint64pow10", Rows.laid_internal_strconv_uint64pow10), ("spandrel/isa.ops", Rows.laid_spandrel_isa_ops), ("spandrel/isa.shapes", Rows.laid_spandrel_isa_shapes)] W) : Tab W := by
  obtain ⟨ps, ⟨_, _, _, _, _, _, _, _, _, _, ⟨_, _, _, _, _, _, _, _, _, _, ⟨_, _, _, _, _, _, _, _, _, _, ⟨g, t, cs, fuel, p, q, hg, ht, hv, hd, ⟨g', t', cs', fuel', p', q', hg', ht', hv', hd', _⟩, _⟩, _⟩, _⟩, _⟩, _⟩ := h
  obtain rfl := Option.some.inj (gOps.symm.trans hg)
  obtain rfl := Option.some.inj (gSh.symm.trans hg')
  obtain rfl := Option.some.inj (gOpsT.symm.trans ht)
  obtain rfl := Option.some.inj (gShT.symm.trans ht')
  rw [laid_ops] at hd
  rw [laid_sh] at hd'
  constructor
  · obtain ⟨xs, m, _, hx, hl, hn, hall⟩ := DataW.trod_array Tryz.underlying237 hd
    have hxs : xs.map (·.1) = opsT.map opData := by
      have := congrArg Prod.fst hx
      simpa using this.symm
    have : cs.toList = opsT.flatMap opCells := cut_flat opCells 3 (by omega) (fun _ => rfl) opsT cs.toList (by rw [hl, cells55]; rfl) fun i x hi => by
      have hi43 : i < 43 := (List.getElem?_eq_some_iff.1 hi).1
      have h1 := hall i hi43
      rw [cells27] at h1
      have h2 : (xs.map (·.1))[i]? = some (opData x) := by rw [hxs, List.getElem?_map, hi]; rfl
      rw [List.getElem?_map, Option.map_eq_some_iff] at h2
      obtain ⟨y, hy, hy2⟩ := h2
      rw [hy] at h1
      obtain ⟨y1, y2⟩ := y
      simp only at hy2
      subst hy2
      exact op_cells h1
    obtain ⟨t, z, hb⟩ := var_block hg hv
    exact ⟨t, z, by rw [hb, ← this]⟩
  · obtain ⟨xs, m, _, hx, hl, hn, hall⟩ := DataW.trod_array Tryz.underlying243 hd'
    have hxs : xs.map (·.1) = shT.map shData := by
      have := congrArg Prod.fst hx
      simpa using this.symm
    have : cs'.toList = shT.flatMap shCells := cut_flat shCells 5 (by omega) (fun _ => rfl) shT cs'.toList (by rw [hl, cells59]; rfl) fun i x hi => by
      have hi43 : i < 14 := (List.getElem?_eq_some_iff.1 hi).1
      have h1 := hall i hi43
      rw [cells58] at h1
      have h2 : (xs.map (·.1))[i]? = some (shData x) := by rw [hxs, List.getElem?_map, hi]; rfl
      rw [List.getElem?_map, Option.map_eq_some_iff] at h2
      obtain ⟨y, hy, hy2⟩ := h2
      rw [hy] at h1
      obtain ⟨y1, y2⟩ := y
      simp only at hy2
      subst hy2
      exact sh_cells h1
    obtain ⟨t, z, hb⟩ := var_block hg' hv'
    exact ⟨t, z, by rw [hb, ← this]⟩
abbrev laid5 : List (String × DataW Unit) := [("math/bits.deBruijn32tab", Rows.laid_math_bits_deBruijn32tab), ("math/bits.deBruijn64tab", Rows.laid_math_bits_deBruijn64tab), ("internal/strconv.uint64pow10", Rows.laid_internal_strconv_uint64pow10), ("spandrel/isa.ops", Rows.laid_spandrel_isa_ops), ("spandrel/isa.shapes", Rows.laid_spandrel_isa_shapes)]
theorem pow_of_laid {W : World} (h : laidMet Tryz.prog laid5 W) : Pow W := by
  have h1 := laidMet.tail (laidMet.tail h)
  exact Lib.tabIs_of_head (rest := [("spandrel/isa.ops", Rows.laid_spandrel_isa_ops), ("spandrel/isa.shapes", Rows.laid_spandrel_isa_shapes)]) gPow (by kernel_rfl) Tryz.underlying239 (by kernel_rfl) (by kernel_rfl) (by kernel_rfl) h1
theorem env_of_laid {W : World} (h : laidMet Tryz.prog laid5 W) : Env W := ⟨tab_of_laid h, pow_of_laid h⟩
def layAt (h : Array Obj) (g : Nat) (cs : Array Value) : Array Obj := h.modify g fun
  | .cells _ t frozen => .cells cs t frozen
  | o => o
def litCells (d : DataW Unit) : Array Value := match d with
  | .agg l => (l.filterMap fun
    | .lit (.int k z) => some (Value.int k z)
    | _ => none).toArray
  | _ => #[]
noncomputable def laidWorld (os : Os) : World :=
  { World.holding Tryz.prog os ⟨#[], #[], []⟩ with heap := layAt (layAt (layAt (layAt (layAt (World.holding Tryz.prog os ⟨#[], #[], []⟩).heap 0 (opsT.flatMap opCells).toArray) 2 (shT.flatMap shCells).toArray) 1 (litCells Rows.laid_internal_strconv_uint64pow10)) 3 (litCells Rows.laid_math_bits_deBruijn32tab)) 4 (litCells Rows.laid_math_bits_deBruijn64tab) }
theorem ownKnob_none : ownKnob Tryz.prog.godebug = none := by kernel_rfl
theorem laidOut : laidOutB Tryz.prog = true := by kernel_rfl
theorem laid_met5 (os : Os) (args : Array Value) : laidMet Tryz.prog laid5 ((laidWorld os).forCall (fun _ _ => 0) ⟨#[], args, []⟩).memory :=
  laidMet_of_run' 8 (by kernel_rfl) (by kernel_rfl)
end Go.Proofs.YtmndccbeddaphaaGreatDoor
namespace Go.Proofs.YtmndccbeddaphaaGreatDoor
open Go.ChangeShapes Go.WideShapes Go.ChangeAt Go.RowKit
set_option linter.unusedVariables false
set_option maxRecDepth 100000
theorem cel3 : Tryz.prog.cellsOf 3 = 1 := by kernel_rfl
theorem cel9 : Tryz.prog.cellsOf 9 = 1 := by kernel_rfl
theorem cel21 : Tryz.prog.cellsOf 21 = 1 := by kernel_rfl
theorem cel22 : Tryz.prog.cellsOf 26 = 1 := by kernel_rfl
theorem cel23 : Tryz.prog.cellsOf 27 = 1 := by kernel_rfl
theorem cel24 : Tryz.prog.cellsOf 28 = 1 := by kernel_rfl
theorem cel26 : Tryz.prog.cellsOf 30 = 4 := by kernel_rfl
theorem cel85 : Tryz.prog.cellsOf 81 = 5 := by kernel_rfl
theorem cel86 : Tryz.prog.cellsOf 82 = 1 := by kernel_rfl
theorem cel87 : Tryz.prog.cellsOf 78 = 1 := by kernel_rfl
theorem cel89 : Tryz.prog.cellsOf 84 = 2 := by kernel_rfl
theorem cel91 : Tryz.prog.cellsOf 86 = 10 := by kernel_rfl
theorem cel101 : Tryz.prog.cellsOf 90 = 3 := by kernel_rfl
theorem cel123 : Tryz.prog.cellsOf 107 = 2 := by kernel_rfl
theorem bulk_pos {H : Type} (d : DataW H) : 1 ≤ Rows.uptoBulk d := by
  cases d with
  | lit l => cases l <;> simp [Rows.uptoBulk]
  | nil => simp [Rows.uptoBulk]
  | ptr d => simp [Rows.uptoBulk]
  | slice elems spare => simp [Rows.uptoBulk]
  | agg parts => simp [Rows.uptoBulk]
  | iface t d => simp [Rows.uptoBulk]
  | map entries => simp [Rows.uptoBulk]
  | held h => simp [Rows.uptoBulk]
theorem bulk_all {H : Type} (l : List (DataW H)) : l.length ≤ Rows.uptoBulkAll l := by
  induction l with
  | nil => simp [Rows.uptoBulkAll]
  | cons x r ih =>
    have := bulk_pos x
    simp only [Rows.uptoBulkAll, List.length_cons]
    omega
theorem bulk_mem {H : Type} (l : List (DataW H)) (d : DataW H) (h : d ∈ l) : Rows.uptoBulk d ≤ Rows.uptoBulkAll l := by
  induction l with
  | nil => cases h
  | cons x r ih =>
    simp only [Rows.uptoBulkAll]
    rcases List.mem_cons.1 h with rfl | h
    · omega
    · have := ih h
      omega
def nameV : Value → List UInt8
  | .string s => s.data.toList
  | _ => []
theorem str_bytes (s : ByteArray) : s = str s.data.toList := by simp [str]
theorem list_each {α : Type} {n : Nat} {P : Nat → α → Prop} (h : ∀ i, i < n → ∃ x, P i x) : ∃ l : List α, l.length = n ∧ ∀ i x, l[i]? = some x → P i x := by
  induction n with
  | zero => exact ⟨[], rfl, fun i x hx => by simp at hx⟩
  | succ n ih =>
    obtain ⟨l, hl, he⟩ := ih fun i hi => h i (by omega)
    obtain ⟨x, hx⟩ := h n (by omega)
    refine ⟨l ++ [x], by simp [hl], fun i y hy => ?_⟩
    by_cases hi : i < l.length
    · rw [List.getElem?_append_left hi] at hy
      exact he i y hy
    · have hi2 := (List.getElem?_eq_some_iff.1 hy).1
      simp at hi2
      obtain rfl : i = l.length := by omega
      simp at hy
      subst hy
      rw [hl]
      exact hx
structure LinC (W : World) (B : Nat) (a : Option Addr) (c : Nat) (x : Lin) : Prop where
  lies : TmLies W a x.terms
  lo : 0 ≤ x.const
  hi : x.const < 4294967296
  few : x.terms.length ≤ B
  each : ∀ t ∈ x.terms, 0 ≤ t.coef ∧ t.coef < 4294967296 ∧ t.name.length ≤ B
  nil : a = none → c = 0
theorem open_linC {H : Type} {enc : TypeId × Value → H} {W : World} {c0 c1 : Value} {d : DataW H} {p : List MemPlace} {fuel : Nat}
    (hf : DataW.trod enc Tryz.prog W 0 (fun _ => true) true fuel 84 [c0, c1] = some (d, p)) :
    ∃ a c x, c0 = .slice a x.terms.length c ∧ c1 = .int .u32 x.const ∧ LinC W (Rows.uptoBulk d) a c x := by
  obtain ⟨y0, y1, n, hx, hl, t0, t1⟩ := trod_struct2 Tryz.underlying84 hf
  simp only [cel86, cel87, List.drop, List.take] at t0 t1
  obtain ⟨k, hk, rfl, wk⟩ := DataW.trod_int Tryz.underlying78 t1
  simp only [List.cons.injEq, and_true] at hk
  subst hk
  have hb := bounds_u32 wk
  simp only [Prod.mk.injEq] at hx
  obtain ⟨rfl, rfl⟩ := hx
  rcases Deep.open_slice_pairs Tryz.underlying82 Tryz.underlying107 cel123 rfl rfl cel9 cel87 t0 with ⟨hc, rfl⟩ | ⟨a, len, cap, m, n', V0, V1, D0, D1, P0, P1, hc, _, hlc, hcm, hm, rfl, hall⟩
  · simp only [List.cons.injEq, and_true] at hc
    subst hc
    exact ⟨none, 0, ⟨[], k⟩, rfl, rfl, ⟨.inl rfl, hb.1, by have := hb.2; show k < _; omega, Nat.zero_le _, (fun t ht => by (cases ht)), fun _ => rfl⟩⟩
  · simp only [List.cons.injEq, and_true] at hc
    subst hc
    simp only [if_true] at hm
    subst hm
    have hone : ∀ i, i < len → V0 i = .string (str (nameV (V0 i))) ∧ V1 i = .int .u32 (intOf (V1 i)) ∧ 0 ≤ intOf (V1 i) ∧ intOf (V1 i) < 4294967296 ∧ (nameV (V0 i)).length + 1 ≤ Rows.uptoBulk (D0 i) := fun i hi => by
      obtain ⟨_, _, h0, h1⟩ := hall i (by omega)
      obtain ⟨s, e0, e1, _⟩ := DataW.trod_string Tryz.underlying9 h0
      obtain ⟨z, e2, e3, wz⟩ := DataW.trod_int Tryz.underlying78 h1
      simp only [List.cons.injEq, and_true] at e0 e2
      simp only [Prod.mk.injEq] at e1 e3
      rw [e0, e2, e1.1]
      have := bounds_u32 wz
      refine ⟨?_, rfl, this.1, by simp only [intOf]; omega, by simp [nameV, Rows.uptoBulk]⟩
      simp [nameV, str]
    have hbulk : ∀ i, i < len → Rows.uptoBulk (D0 i) + 1 ≤ Rows.uptoBulkAll ((List.range len).map fun i => DataW.agg [D0 i, D1 i]) := fun i hi => by
      have := bulk_mem ((List.range len).map fun i => DataW.agg [D0 i, D1 i]) (.agg [D0 i, D1 i]) (List.mem_map.2 ⟨i, List.mem_range.2 hi, rfl⟩)
      simp only [Rows.uptoBulk, Rows.uptoBulkAll] at this
      omega
    have hfew := bulk_all ((List.range len).map fun i => DataW.agg [D0 i, D1 i])
    simp only [List.length_map, List.length_range] at hfew
    have hB : Rows.uptoBulkAll ((List.range len).map fun i => DataW.agg [D0 i, D1 i]) ≤ Rows.uptoBulk (DataW.agg [DataW.slice ((List.range len).map fun i => DataW.agg [D0 i, D1 i]) ((List.range (m - len)).map fun j => DataW.agg [D0 (len + j), D1 (len + j)]), DataW.lit (Lit.int IntKind.u32 k)]) := by
      simp only [Rows.uptoBulk, Rows.uptoBulkAll]
      omega
    have hat : ∀ i t, ((List.range len).map fun i => (⟨nameV (V0 i), intOf (V1 i)⟩ : Tm))[i]? = some t → i < len ∧ t = ⟨nameV (V0 i), intOf (V1 i)⟩ := fun i t ht => by
      rw [List.getElem?_map, Option.map_eq_some_iff] at ht
      obtain ⟨j, hj, rfl⟩ := ht
      obtain ⟨hj1, hj2⟩ := List.getElem?_eq_some_iff.1 hj
      simp at hj1 hj2
      subst hj2
      exact ⟨hj1, rfl⟩
    refine ⟨some a, m, ⟨(List.range len).map fun i => ⟨nameV (V0 i), intOf (V1 i)⟩, k⟩, by simp, rfl, ⟨?_, hb.1, by have := hb.2; show k < _; omega, by simp; omega, fun t ht => ?_, fun h => (by cases h)⟩⟩
    · by_cases h0 : len = 0
      · subst h0
        exact .inl rfl
      · obtain ⟨b, off, spot⟩ := a
        have hspot : spot = none := by simpa [Addr.add] using World.cell?_spot (hall 0 (by omega)).1
        subst hspot
        have hadd : ∀ j, (⟨b, off, none⟩ : Addr).add j = ⟨b, off + j, none⟩ := fun j => by unfold Addr.add; split <;> simp_all
        refine .inr ⟨b, off, rfl, ?_, fun i t ht => ?_⟩
        · have h1 := (hall 0 (by omega)).1
          apply Decidable.byContradiction
          intro hn
          unfold World.cell? at h1
          simp [Array.getElem?_eq_none (show W.heap.size ≤ b by omega), hadd] at h1
        · obtain ⟨hi, rfl⟩ := hat i t ht
          obtain ⟨k0, k1, _⟩ := hall i (by omega)
          rw [hadd] at k0 k1
          obtain ⟨e0, e1, _⟩ := hone i hi
          exact ⟨by rw [k0, ← e0], by rw [Nat.add_assoc, k1, ← e1]⟩
    · obtain ⟨i, hi⟩ := List.getElem?_of_mem ht
      obtain ⟨hi2, rfl⟩ := hat i t hi
      obtain ⟨_, _, e2, e3, e4⟩ := hone i hi2
      have := hbulk i hi2
      exact ⟨e2, e3, by simp only; omega⟩
theorem list10 {α : Type} {l : List α} (h : l.length = 10) : ∃ a b c d e f g i j k, l = [a, b, c, d, e, f, g, i, j, k] := by
  match l, h with
  | [a, b, c, d, e, f, g, i, j, k], _ => exact ⟨a, b, c, d, e, f, g, i, j, k, rfl⟩
structure ItC (W : World) (B : Nat) (cs : List Value) (x : Itm) (va : Option Addr) (vc : Nat) : Prop where
  is : cs = (itmCells x (.slice va x.e.terms.length vc)).toList
  name : x.name.length ≤ B
  m : -2147483648 ≤ x.m ∧ x.m ≤ 2147483647
  n : -9223372036854775808 ≤ x.n ∧ x.n ≤ 9223372036854775807
  lin : LinC W B va vc x.e
theorem LinC.mono {W : World} {B C : Nat} {a : Option Addr} {c : Nat} {x : Lin} (h : LinC W B a c x) (hBC : B ≤ C) : LinC W C a c x :=
  ⟨h.lies, h.lo, h.hi, by have := h.few; omega, fun t ht => ⟨(h.each t ht).1, (h.each t ht).2.1, by have := (h.each t ht).2.2; omega⟩, h.nil⟩
theorem LinC.src {W : World} {B : Nat} {a : Option Addr} {c : Nat} {x : Lin} (h : LinC W B a c x) : Src W (.slice a x.terms.length c) x.terms.length (rowT x.terms) := by
  rcases h.lies with h0 | ⟨g, o, rfl, hg, h1⟩
  · rw [h0]
    cases a with
    | none => exact .inl ⟨by rw [h.nil rfl]; rfl, rfl, rfl⟩
    | some y => exact .inr ⟨y, c, rfl, fun j u hj => (by simp [rowT] at hj)⟩
  · refine .inr ⟨_, c, rfl, fun j u hj => ?_⟩
    have hl : (rowT x.terms).length = x.terms.length * 2 := by
      unfold rowT
      generalize x.terms = l
      induction l with
      | nil => rfl
      | cons t l ih => rw [List.flatMap_cons, List.length_append, ih, List.length_cons]; show 2 + _ = _; omega
    have hj2 : j < x.terms.length * 2 := by
      have := (List.getElem?_eq_some_iff.1 hj).1
      omega
    have hq : j / 2 < x.terms.length := by omega
    have ht := List.getElem?_eq_getElem hq
    have hat := h1 (j / 2) _ ht
    have hfl := flat_at Tm.cells 2 (fun _ => rfl) x.terms (j / 2)
    unfold rowT at hj
    have hadd : (⟨g, o, none⟩ : Addr).add j = ⟨g, o + j, none⟩ := by
      unfold Addr.add
      split <;> simp_all
    rw [hadd]
    rcases Nat.mod_two_eq_zero_or_one j with hm | hm
    · have hf := hfl 0 _ ht (by omega)
      rw [show j / 2 * 2 + 0 = j by omega, hj] at hf
      have h3 := hat.name
      rw [show o + j / 2 * 2 = o + j by omega] at h3
      rw [h3]
      exact hf.symm
    · have hf := hfl 1 _ ht (by omega)
      rw [show j / 2 * 2 + 1 = j by omega, hj] at hf
      have h3 := hat.coef
      rw [show o + j / 2 * 2 + 1 = o + j by omega] at h3
      rw [h3]
      exact hf.symm
theorem open_itC {H : Type} {enc : TypeId × Value → H} {W : World} {cs : List Value} {d : DataW H} {p : List MemPlace} {fuel : Nat}
    (hf : DataW.trod enc Tryz.prog W 0 (fun _ => true) true fuel 86 cs = some (d, p)) :
    ∃ x va vc, ItC W (Rows.uptoBulk d) cs x va vc := by
  obtain ⟨y0, y1, y2, y3, y4, n, hx, hl, t0, t1, t2, t3, t4⟩ := trod_struct5 Tryz.underlying86 hf
  rw [cel91] at hl
  obtain ⟨c0, c1, c2, c3, c4, c5, c6, c7, c8, c9, rfl⟩ := list10 hl
  simp only [cel3, cel9, cel85, cel89, List.drop, List.take] at t0 t1 t2 t3 t4
  obtain ⟨z0, e0, _, w0⟩ := DataW.trod_int Tryz.underlying3 t0
  obtain ⟨s, e1, f1, _⟩ := DataW.trod_string Tryz.underlying9 t1
  obtain ⟨z9, e9, _, w9⟩ := DataW.trod_int Tryz.underlying3 t4
  obtain ⟨u0, u1, u2, u3, u4, n2, hx2, hl2, s0, s1, s2, s3, s4⟩ := trod_struct5 Tryz.underlying81 t2
  simp only [cel3, cel21, List.drop, List.take] at s0 s1 s2 s3 s4
  obtain ⟨z2, e2, _, w2⟩ := DataW.trod_int Tryz.underlying3 s0
  obtain ⟨z3, e3, _, w3⟩ := DataW.trod_int Tryz.underlying3 s1
  obtain ⟨z4, e4, _, w4⟩ := DataW.trod_int Tryz.underlying3 s2
  obtain ⟨z5, e5, _, w5⟩ := DataW.trod_int Tryz.underlying21 s3
  obtain ⟨z6, e6, _, w6⟩ := DataW.trod_int Tryz.underlying3 s4
  simp only [List.cons.injEq, and_true] at e0 e1 e2 e3 e4 e5 e6 e9
  subst e0 e1 e2 e3 e4 e5 e6 e9
  obtain ⟨d3, p3⟩ := y3
  obtain ⟨va, vc, L, rfl, rfl, hL⟩ := open_linC t3
  simp only [Prod.mk.injEq] at hx
  obtain ⟨rfl, _⟩ := hx
  have hB3 : Rows.uptoBulk d3 ≤ Rows.uptoBulk (DataW.agg [y0.1, y1.1, y2.1, d3, y4.1]) := by
    simp only [Rows.uptoBulk, Rows.uptoBulkAll]
    omega
  have hB1 : s.data.toList.length ≤ Rows.uptoBulk (DataW.agg [y0.1, y1.1, y2.1, d3, y4.1]) := by
    rw [f1]
    simp only [Rows.uptoBulk, Rows.uptoBulkAll]
    omega
  refine ⟨⟨z0, s.data.toList, z2, z3, z4, z5, z6, L, z9⟩, va, vc, ⟨?_, hB1, bounds_i32 w5, bounds_i64 w9, hL.mono hB3⟩⟩
  show _ = [_, _, _, _, _, _, _, _, _, _]
  simp [← str_bytes]
theorem add_none (b off j : Nat) : (⟨b, off, none⟩ : Addr).add j = ⟨b, off + j, none⟩ := by
  unfold Addr.add
  split <;> simp_all
theorem cells_at {W : World} {b off k : Nat} {cs : List Value} (h : W.cells? 0 ⟨b, off, none⟩ k = some cs) : ∀ j, j < k → W.cell? ⟨b, off + j, none⟩ = cs[j]? := fun j hj => by
  rw [← (World.cells?_some h).2.2 j hj, add_none]
theorem plain_addr {W : World} {a : Addr} {k : Nat} {cs : List Value} (hk : 0 < k) (h : W.cells? 0 a k = some cs) : ∃ g o, a = ⟨g, o, none⟩ ∧ g < W.heap.size := by
  obtain ⟨h1, h2, h3⟩ := World.cells?_some h
  have h0 := h3 0 hk
  rw [List.getElem?_eq_getElem (by omega)] at h0
  have hs := World.cell?_spot h0
  obtain ⟨b, off, spot⟩ := a
  have hspot : spot = none := by simpa [Addr.add] using hs
  subst hspot
  exact ⟨b, off, rfl, World.cells?_block h hk⟩
theorem open_items {H : Type} {enc : TypeId × Value → H} {W : World} {c : Value} {d : DataW H} {p : List MemPlace} {fuel : Nat}
    (hf : DataW.trod enc Tryz.prog W 0 (fun _ => true) true fuel 26 [c] = some (d, p)) :
    ∃ a vc l, c = .slice a l.length vc ∧ ItIn W a l ∧ l.length ≤ Rows.uptoBulk d ∧ l.length ≤ vc ∧ vc ≤ maxLen ∧ (∀ x ∈ l, ∃ va vc, ItC W (Rows.uptoBulk d) (itmCells x (.slice va x.e.terms.length vc)).toList x va vc) ∧ ItSrc W a l := by
  rcases Deep.open_slice Tryz.underlying26 hf with ⟨hc, hx⟩ | ⟨a, len, cap, m, n, D, Pl, hc, _, hlc, hcm, hm, hx, hall⟩
  · simp only [List.cons.injEq, and_true] at hc
    subst hc
    exact ⟨none, 0, [], rfl, .inl rfl, Nat.zero_le _, Nat.le_refl _, Nat.zero_le _, (fun x hx => by cases hx), .inl rfl⟩
  · simp only [List.cons.injEq, and_true] at hc
    subst hc
    simp only [if_true] at hm
    subst hm
    simp only [Prod.mk.injEq] at hx
    obtain ⟨rfl, _⟩ := hx
    simp only [cel91] at hall
    have hfew := bulk_all ((List.range len).map D)
    simp only [List.length_map, List.length_range] at hfew
    have hB : Rows.uptoBulkAll ((List.range len).map D) ≤ Rows.uptoBulk (DataW.slice ((List.range len).map D) ((List.range (m - len)).map fun j => D (len + j))) := by
      simp only [Rows.uptoBulk]
      omega
    have heach : ∀ i, i < len → ∃ x : Itm, ∃ cs va vc, W.cells? 0 (a.add (i * 10)) 10 = some cs ∧ ItC W (Rows.uptoBulk (DataW.slice ((List.range len).map D) ((List.range (m - len)).map fun j => D (len + j)))) cs x va vc := fun i hi => by
      obtain ⟨cs, h1, h2⟩ := hall i (by omega)
      obtain ⟨x, va, vc, hx⟩ := open_itC h2
      have hb := bulk_mem ((List.range len).map D) (D i) (List.mem_map.2 ⟨i, List.mem_range.2 hi, rfl⟩)
      exact ⟨x, cs, va, vc, h1, hx.is, by have := hx.name; omega, hx.m, hx.n, hx.lin.mono (by omega)⟩
    obtain ⟨l, hl, hP⟩ := list_each heach
    refine ⟨some a, m, l, by rw [hl], ?_, by omega, by omega, hcm, fun x hx => ?_, ?_⟩
    · by_cases h0 : l = []
      · exact .inl h0
      · have hpos : 0 < l.length := List.length_pos_iff.2 h0
        obtain ⟨_, cs0, va0, vc0, hc0, _⟩ := heach 0 (by omega)
        rw [Nat.zero_mul, show a.add 0 = a from by simp [Addr.add]] at hc0
        obtain ⟨g, o, rfl, hg⟩ := plain_addr (by omega) hc0
        refine .inr ⟨g, o, rfl, hg, fun i x hx => ?_⟩
        obtain ⟨cs, va, vc, h1, h2⟩ := hP i x hx
        rw [add_none] at h1
        have hcl := cells_at h1
        rw [h2.is] at hcl
        exact ⟨va, vc, ⟨hcl 0 (by omega), hcl 1 (by omega), hcl 2 (by omega), hcl 3 (by omega), hcl 4 (by omega), hcl 5 (by omega), hcl 6 (by omega), hcl 7 (by omega), hcl 8 (by omega), hcl 9 (by omega)⟩, h2.lin.lies⟩
    · obtain ⟨i, hi⟩ := List.getElem?_of_mem hx
      obtain ⟨cs, va, vc, h1, h2⟩ := hP i x hi
      exact ⟨va, vc, rfl, h2.name, h2.m, h2.n, h2.lin⟩
    · by_cases h0 : l = []
      · exact .inl h0
      · have hpos : 0 < l.length := List.length_pos_iff.2 h0
        obtain ⟨_, cs0, va0, vc0, hc0, _⟩ := heach 0 (by omega)
        rw [Nat.zero_mul, show a.add 0 = a from by simp [Addr.add]] at hc0
        obtain ⟨g, o, rfl, hg⟩ := plain_addr (by omega) hc0
        refine .inr ⟨g, o, rfl, hg, fun i x hx => ?_⟩
        obtain ⟨cs, va, vc, h1, h2⟩ := hP i x hx
        rw [add_none] at h1
        have hcl := cells_at h1
        rw [h2.is] at hcl
        exact ⟨va, vc, ⟨hcl 0 (by omega), hcl 1 (by omega), hcl 2 (by omega), hcl 3 (by omega), hcl 4 (by omega), hcl 5 (by omega), hcl 6 (by omega), hcl 7 (by omega), hcl 8 (by omega), hcl 9 (by omega)⟩, h2.lin.src⟩
structure EqC (W : World) (B : Nat) (cs : List Value) (q : List UInt8 × Lin) (va : Option Addr) (vc : Nat) : Prop where
  is : cs = [.string (str q.1), .slice va q.2.terms.length vc, .int .u32 q.2.const]
  name : q.1.length ≤ B
  lin : LinC W B va vc q.2
theorem open_eqC {H : Type} {enc : TypeId × Value → H} {W : World} {cs : List Value} {d : DataW H} {p : List MemPlace} {fuel : Nat}
    (hf : DataW.trod enc Tryz.prog W 0 (fun _ => true) true fuel 90 cs = some (d, p)) :
    ∃ q va vc, EqC W (Rows.uptoBulk d) cs q va vc := by
  obtain ⟨y0, y1, n, hx, hl, t0, t1⟩ := trod_struct2 Tryz.underlying90 hf
  rw [cel101] at hl
  obtain ⟨c0, c1, c2, rfl⟩ := list3 hl
  simp only [cel9, cel89, List.drop, List.take] at t0 t1
  obtain ⟨s, e1, f1, _⟩ := DataW.trod_string Tryz.underlying9 t0
  simp only [List.cons.injEq, and_true] at e1
  subst e1
  obtain ⟨d1, p1⟩ := y1
  obtain ⟨va, vc, L, rfl, rfl, hL⟩ := open_linC t1
  simp only [Prod.mk.injEq] at hx
  obtain ⟨rfl, _⟩ := hx
  have hB3 : Rows.uptoBulk d1 ≤ Rows.uptoBulk (DataW.agg [y0.1, d1]) := by
    simp only [Rows.uptoBulk, Rows.uptoBulkAll]
    omega
  have hB1 : s.data.toList.length ≤ Rows.uptoBulk (DataW.agg [y0.1, d1]) := by
    rw [f1]
    simp only [Rows.uptoBulk, Rows.uptoBulkAll]
    omega
  exact ⟨(s.data.toList, L), va, vc, ⟨by simp [← str_bytes], hB1, hL.mono hB3⟩⟩
def EqSr (w : World) (a : Option Addr) (l : List (List UInt8 × Lin)) : Prop := l = [] ∨ ∃ g o, a = some ⟨g, o, none⟩ ∧ g < w.heap.size ∧ ∀ (i : Nat) (q : List UInt8 × Lin), l[i]? = some q → ∃ va vc, w.cell? ⟨g, o + i * 3, none⟩ = some (.string (str q.1)) ∧ w.cell? ⟨g, o + i * 3 + 1, none⟩ = some (.slice va q.2.terms.length vc) ∧ w.cell? ⟨g, o + i * 3 + 2, none⟩ = some (.int .u32 q.2.const) ∧ Src w (.slice va q.2.terms.length vc) q.2.terms.length (rowT q.2.terms)
theorem open_equs {H : Type} {enc : TypeId × Value → H} {W : World} {c : Value} {d : DataW H} {p : List MemPlace} {fuel : Nat}
    (hf : DataW.trod enc Tryz.prog W 0 (fun _ => true) true fuel 27 [c] = some (d, p)) :
    ∃ a vc l, c = .slice a l.length vc ∧ EqIn W a l ∧ l.length ≤ Rows.uptoBulk d ∧ l.length ≤ vc ∧ vc ≤ maxLen ∧ (∀ q ∈ l, ∃ va vc, EqC W (Rows.uptoBulk d) [.string (str q.1), .slice va q.2.terms.length vc, .int .u32 q.2.const] q va vc) ∧ EqSr W a l := by
  rcases Deep.open_slice Tryz.underlying27 hf with ⟨hc, hx⟩ | ⟨a, len, cap, m, n, D, Pl, hc, _, hlc, hcm, hm, hx, hall⟩
  · simp only [List.cons.injEq, and_true] at hc
    subst hc
    exact ⟨none, 0, [], rfl, .inl rfl, Nat.zero_le _, Nat.le_refl _, Nat.zero_le _, (fun x hx => by cases hx), .inl rfl⟩
  · simp only [List.cons.injEq, and_true] at hc
    subst hc
    simp only [if_true] at hm
    subst hm
    simp only [Prod.mk.injEq] at hx
    obtain ⟨rfl, _⟩ := hx
    simp only [cel101] at hall
    have hfew := bulk_all ((List.range len).map D)
    simp only [List.length_map, List.length_range] at hfew
    have hB : Rows.uptoBulkAll ((List.range len).map D) ≤ Rows.uptoBulk (DataW.slice ((List.range len).map D) ((List.range (m - len)).map fun j => D (len + j))) := by
      simp only [Rows.uptoBulk]
      omega
    have heach : ∀ i, i < len → ∃ q : List UInt8 × Lin, ∃ cs va vc, W.cells? 0 (a.add (i * 3)) 3 = some cs ∧ EqC W (Rows.uptoBulk (DataW.slice ((List.range len).map D) ((List.range (m - len)).map fun j => D (len + j)))) cs q va vc := fun i hi => by
      obtain ⟨cs, h1, h2⟩ := hall i (by omega)
      obtain ⟨x, va, vc, hx⟩ := open_eqC h2
      have hb := bulk_mem ((List.range len).map D) (D i) (List.mem_map.2 ⟨i, List.mem_range.2 hi, rfl⟩)
      exact ⟨x, cs, va, vc, h1, hx.is, by have := hx.name; omega, hx.lin.mono (by omega)⟩
    obtain ⟨l, hl, hP⟩ := list_each heach
    refine ⟨some a, m, l, by rw [hl], ?_, by omega, by omega, hcm, fun x hx => ?_, ?_⟩
    · by_cases h0 : l = []
      · exact .inl h0
      · have hpos : 0 < l.length := List.length_pos_iff.2 h0
        obtain ⟨_, cs0, va0, vc0, hc0, _⟩ := heach 0 (by omega)
        rw [Nat.zero_mul, show a.add 0 = a from by simp [Addr.add]] at hc0
        obtain ⟨g, o, rfl, hg⟩ := plain_addr (by omega) hc0
        refine .inr ⟨g, o, rfl, hg, fun i x hx => ?_⟩
        obtain ⟨cs, va, vc, h1, h2⟩ := hP i x hx
        rw [add_none] at h1
        have hcl := cells_at h1
        rw [h2.is] at hcl
        exact ⟨va, vc, hcl 0 (by omega), hcl 1 (by omega), hcl 2 (by omega), h2.lin.lies⟩
    · obtain ⟨i, hi⟩ := List.getElem?_of_mem hx
      obtain ⟨cs, va, vc, h1, h2⟩ := hP i x hi
      exact ⟨va, vc, rfl, h2.name, h2.lin⟩
    · by_cases h0 : l = []
      · exact .inl h0
      · have hpos : 0 < l.length := List.length_pos_iff.2 h0
        obtain ⟨_, cs0, va0, vc0, hc0, _⟩ := heach 0 (by omega)
        rw [Nat.zero_mul, show a.add 0 = a from by simp [Addr.add]] at hc0
        obtain ⟨g, o, rfl, hg⟩ := plain_addr (by omega) hc0
        refine .inr ⟨g, o, rfl, hg, fun i x hx => ?_⟩
        obtain ⟨cs, va, vc, h1, h2⟩ := hP i x hx
        rw [add_none] at h1
        have hcl := cells_at h1
        rw [h2.is] at hcl
        exact ⟨va, vc, hcl 0 (by omega), hcl 1 (by omega), hcl 2 (by omega), h2.lin.src⟩
theorem open_globs {H : Type} {enc : TypeId × Value → H} {W : World} {c : Value} {d : DataW H} {p : List MemPlace} {fuel : Nat}
    (hf : DataW.trod enc Tryz.prog W 0 (fun _ => true) true fuel 28 [c] = some (d, p)) :
    ∃ a vc l, c = .slice a l.length vc ∧ StIn W a l ∧ l.length ≤ Rows.uptoBulk d ∧ l.length ≤ vc ∧ vc ≤ maxLen ∧ (∀ s ∈ l, s.length ≤ Rows.uptoBulk d) ∧ (a = none → vc = 0) := by
  rcases Deep.open_strs Tryz.underlying28 Tryz.underlying9 cel9 hf with ⟨hc, hx⟩ | ⟨a, len, cap, m, Sx, hc, _, hlc, hcm, hm, hx, hall⟩
  · simp only [List.cons.injEq, and_true] at hc
    subst hc
    exact ⟨none, 0, [], rfl, .inl rfl, Nat.zero_le _, Nat.le_refl _, Nat.zero_le _, (fun x hx => by cases hx), fun _ => rfl⟩
  · simp only [List.cons.injEq, and_true] at hc
    subst hc
    simp only [if_true] at hm
    subst hm
    simp only [Prod.mk.injEq] at hx
    obtain ⟨rfl, _⟩ := hx
    have hfew := bulk_all ((List.range len).map fun i => (DataW.lit (.string (Sx i).data.toList) : DataW H))
    simp only [List.length_map, List.length_range] at hfew
    have hB : Rows.uptoBulkAll ((List.range len).map fun i => (DataW.lit (.string (Sx i).data.toList) : DataW H)) ≤ Rows.uptoBulk (DataW.slice ((List.range len).map fun i => (DataW.lit (.string (Sx i).data.toList) : DataW H)) ((List.range (m - len)).map fun j => DataW.lit (.string (Sx (len + j)).data.toList))) := by
      simp only [Rows.uptoBulk]
      omega
    have hat : ∀ i t, ((List.range len).map fun i => (Sx i).data.toList)[i]? = some t → i < len ∧ t = (Sx i).data.toList := fun i t ht => by
      rw [List.getElem?_map, Option.map_eq_some_iff] at ht
      obtain ⟨j, hj, rfl⟩ := ht
      obtain ⟨hj1, hj2⟩ := List.getElem?_eq_some_iff.1 hj
      simp at hj1 hj2
      subst hj2
      exact ⟨hj1, rfl⟩
    refine ⟨some a, m, (List.range len).map fun i => (Sx i).data.toList, by simp, ?_, by simp; omega, by simpa using hlc, hcm, fun s hs => ?_, fun h => (by cases h)⟩
    · by_cases h0 : len = 0
      · subst h0; exact .inl rfl
      · have hc0 : W.cells? 0 a 1 = some [.string (Sx 0)] := cells?_one (Nat.zero_le _) (by have := (hall 0 (by omega)).1; rwa [show a.add 0 = a from by simp [Addr.add]] at this)
        obtain ⟨g, o, rfl, hg⟩ := plain_addr (by omega) hc0
        refine .inr ⟨g, o, rfl, hg, fun i s hs => ?_⟩
        obtain ⟨hi, rfl⟩ := hat i s hs
        have := (hall i (by omega)).1
        rw [add_none] at this
        rw [this, ← str_bytes]
    · obtain ⟨i, hi⟩ := List.getElem?_of_mem hs
      obtain ⟨hi2, rfl⟩ := hat i s hi
      have hb := bulk_mem ((List.range len).map fun i => (DataW.lit (.string (Sx i).data.toList) : DataW H)) (DataW.lit (.string (Sx i).data.toList)) (List.mem_map.2 ⟨i, List.mem_range.2 hi2, rfl⟩)
      have h1 : (Sx i).data.toList.length ≤ Rows.uptoBulk (DataW.lit (.string (Sx i).data.toList) : DataW H) := by simp only [Rows.uptoBulk]; omega
      omega
structure UIn (W : World) (v : Value) (B : Nat) (ta da ea ga : Option Addr) (tc dc ec gc : Nat) (u : UVal) : Prop where
  is : v = .agg (unitV ta tc da dc ea ec ga gc u)
  lies : UnitIn W ta da ea ga u
  few : u.text.length ≤ B ∧ u.data.length ≤ B ∧ u.equs.length ≤ B ∧ u.globs.length ≤ B
  caps : (u.text.length ≤ tc ∧ tc ≤ maxLen) ∧ (u.data.length ≤ dc ∧ dc ≤ maxLen) ∧ (u.equs.length ≤ ec ∧ ec ≤ maxLen) ∧ (u.globs.length ≤ gc ∧ gc ≤ maxLen)
  text : ∀ x ∈ u.text, ∃ va vc, ItC W B (itmCells x (.slice va x.e.terms.length vc)).toList x va vc
  data : ∀ x ∈ u.data, ∃ va vc, ItC W B (itmCells x (.slice va x.e.terms.length vc)).toList x va vc
  equs : ∀ q ∈ u.equs, ∃ va vc, EqC W B [.string (str q.1), .slice va q.2.terms.length vc, .int .u32 q.2.const] q va vc
  globs : ∀ s ∈ u.globs, s.length ≤ B
  srcT : ItSrc W ta u.text
  srcD : ItSrc W da u.data
  srcE : EqSr W ea u.equs
  nilG : ga = none → gc = 0
theorem ItC.mono {W : World} {B C : Nat} {cs : List Value} {x : Itm} {va : Option Addr} {vc : Nat} (h : ItC W B cs x va vc) (hB : B ≤ C) : ItC W C cs x va vc := ⟨h.is, by have := h.name; omega, h.m, h.n, h.lin.mono hB⟩
theorem EqC.mono {W : World} {B C : Nat} {cs : List Value} {q : List UInt8 × Lin} {va : Option Addr} {vc : Nat} (h : EqC W B cs q va vc) (hB : B ≤ C) : EqC W C cs q va vc := ⟨h.is, by have := h.name; omega, h.lin.mono hB⟩
theorem list4 {α : Type} {l : List α} (h : l.length = 4) : ∃ a b c d, l = [a, b, c, d] := by
  match l, h with
  | [a, b, c, d], _ => exact ⟨a, b, c, d, rfl⟩
theorem open_unit {H : Type} {enc : TypeId × Value → H} {W : World} {base : Nat} {v : Value} {d : DataW H} {p : List MemPlace}
    (hval : Value.okWide Tryz.prog W .any base 30 v) (h : DataW.Trod enc Tryz.prog W 0 (fun _ => true) true 30 v d p) :
    ∃ ta da ea ga tc dc ec gc u, UIn W v (Rows.uptoBulk d) ta da ea ga tc dc ec gc u := by
  obtain ⟨cs, rfl, hcs⟩ := okWide_struct Tryz.underlying30 hval
  rw [cel26] at hcs
  obtain ⟨fuel, hf⟩ := h
  obtain ⟨y0, y1, y2, y3, n, hx, hl, t0, t1, t2, t3⟩ := Joins.trod_struct4 Tryz.underlying30 hf
  obtain ⟨cs⟩ := cs
  obtain ⟨c0, c1, c2, c3, rfl⟩ := list4 (by simpa using hcs)
  simp only [Value.cells, cel22, cel23, cel24, List.drop, List.take] at t0 t1 t2 t3
  obtain ⟨d0, p0⟩ := y0
  obtain ⟨d1, p1⟩ := y1
  obtain ⟨d2, p2⟩ := y2
  obtain ⟨d3, p3⟩ := y3
  simp only [Prod.mk.injEq] at hx
  obtain ⟨rfl, _⟩ := hx
  obtain ⟨ta, tc, lt, rfl, i0, l0, k0, m0, h0, s0⟩ := open_items t0
  obtain ⟨da, dc, ld, rfl, i1, l1, k1, m1, h1, s1⟩ := open_items t1
  obtain ⟨ea, ec, le, rfl, i2, l2, k2, m2, h2, s2⟩ := open_equs t2
  obtain ⟨ga, gc, lg, rfl, i3, l3, k3, m3, h3, s3⟩ := open_globs t3
  have hb : Rows.uptoBulk d0 ≤ Rows.uptoBulk (DataW.agg [d0, d1, d2, d3]) ∧ Rows.uptoBulk d1 ≤ Rows.uptoBulk (DataW.agg [d0, d1, d2, d3]) ∧ Rows.uptoBulk d2 ≤ Rows.uptoBulk (DataW.agg [d0, d1, d2, d3]) ∧ Rows.uptoBulk d3 ≤ Rows.uptoBulk (DataW.agg [d0, d1, d2, d3]) := by
    simp only [Rows.uptoBulk, Rows.uptoBulkAll]
    omega
  obtain ⟨b0, b1, b2, b3⟩ := hb
  refine ⟨ta, da, ea, ga, tc, dc, ec, gc, ⟨lt, ld, le, lg⟩, ⟨rfl, ⟨i0, i1, i2, i3⟩, ⟨by show lt.length ≤ _; omega, by show ld.length ≤ _; omega, by show le.length ≤ _; omega, by show lg.length ≤ _; omega⟩, ⟨⟨k0, m0⟩, ⟨k1, m1⟩, ⟨k2, m2⟩, ⟨k3, m3⟩⟩, fun x hx => ?_, fun x hx => ?_, fun q hq => ?_, fun s hs => ?_, s0, s1, s2, s3⟩⟩
  · obtain ⟨va, vc, g⟩ := h0 x hx
    exact ⟨va, vc, g.mono b0⟩
  · obtain ⟨va, vc, g⟩ := h1 x hx
    exact ⟨va, vc, g.mono b1⟩
  · obtain ⟨va, vc, g⟩ := h2 q hq
    exact ⟨va, vc, g.mono b2⟩
  · have := h3 s hs
    omega
end Go.Proofs.YtmndccbeddaphaaGreatDoor
