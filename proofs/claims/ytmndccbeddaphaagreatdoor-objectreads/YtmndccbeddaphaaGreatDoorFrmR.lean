/- How bytes that came in are opened, with the bound of the reach. -/
import Derived.Test.YtmndccbeddaphaaGreatDoorICheck
import Derived.Test.YtmndccbeddaphaaGreatDoorRfe
import Derived.Test.YtmndccbeddaphaaGreatDoorDd5
import Derived.Test.YtmndccbeddaphaaGreatDoorCards
import Derived.Test.YtmndccbeddaphaaGreatDoorTie
import Derived.WalkKit
import Derived.ProofKit
import Derived.OpenShut
import Derived.Below
import Derived.Handy
import Derived.Lib.LaidTab
import Derived.Stop.LaidErr
import Derived.Deep.Strs
import Derived.LaidLaws
import Derived.LaidHandle
import Derived.ShutString
import Derived.ChangeOld
import Derived.ChangeArms
import Derived.JoinedCond
import Derived.Deep.DeepHandedRow
import Derived.SizedLaws
import Derived.ChangeSlices
/- What the laid variables give: the tables; the witness's world. -/
namespace Go.Proofs.YtmndccbeddaphaaGreatDoor
open Go.ChangeShapes Go.WideShapes Go.ChangeAt Go.RowKit
set_option linter.unusedVariables false
set_option maxRecDepth 100000
theorem cut_flat {α β : Type} (f : α → List β) (k : Nat) (hk : 0 < k) (hf : ∀ x, (f x).length = k) : ∀ (l : List α) (cs : List β), cs.length = l.length * k → (∀ i x, l[i]? = some x → (cs.drop (i * k)).take k = f x) → cs = l.flatMap f
  | [], cs, hl, _ => by
    simp at hl
    simp [hl]
  | y :: l, cs, hl, h => by
    have h0 := h 0 y rfl
    rw [Nat.zero_mul, List.drop_zero] at h0
    rw [List.flatMap_cons, ← h0, ← cut_flat f k hk hf l (cs.drop k) (by simp only [List.length_drop, hl, List.length_cons, Nat.succ_mul]; omega) (fun i x hx => by
      have := h (i + 1) x (by simpa using hx)
      rw [List.drop_drop, ← this, Nat.succ_mul, Nat.add_comm])]
    exact (List.take_append_drop k cs).symm
theorem gOps : Tryz.prog.globalNamed "spandrel/isa.ops" = some 0 := by kernel_rfl
theorem gSh : Tryz.prog.globalNamed "spandrel/isa.shapes" = some 2 := by kernel_rfl
theorem gOpsT : (Tryz.prog.globals[0]?).map (·.type) = some 237 := by kernel_rfl
theorem gShT : (Tryz.prog.globals[2]?).map (·.type) = some 243 := by kernel_rfl
theorem cells27 : Tryz.prog.cellsOf 221 = 3 := by kernel_rfl
theorem cells58 : Tryz.prog.cellsOf 242 = 5 := by kernel_rfl
theorem cells55 : Tryz.prog.cellsOf 237 = 129 := by kernel_rfl
theorem cells59 : Tryz.prog.cellsOf 243 = 70 := by kernel_rfl
theorem icells9 : Tryz.prog.cellsOf 9 = 1 := by kernel_rfl
theorem cells5 : Tryz.prog.cellsOf 5 = 1 := by kernel_rfl
theorem cells3 : Tryz.prog.cellsOf 3 = 1 := by kernel_rfl
theorem cells21 : Tryz.prog.cellsOf 21 = 1 := by kernel_rfl
def opData (x : List UInt8 × Int × Int) : DataW Unit := .agg [.lit (.string x.1), .lit (.int .u8 x.2.1), .lit (.int .i64 x.2.2)]
def shData (x : Int × Int × Int × Int × Int) : DataW Unit := .agg [.lit (.int .i64 x.1), .lit (.int .i64 x.2.1), .lit (.int .i32 x.2.2.1), .lit (.int .i32 x.2.2.2.1), .lit (.int .i64 x.2.2.2.2)]
theorem laid_ops : (Rows.laid_spandrel_isa_ops : DataW Unit) = .agg (opsT.map opData) := rfl
theorem laid_sh : (Rows.laid_spandrel_isa_shapes : DataW Unit) = .agg (shT.map shData) := rfl
section
variable {H : Type} {enc : TypeId × Value → H} {P : Program} {w : World} {base : Nat} {spare : Nat → Bool} {held : Bool}
end
theorem list5 {α : Type} {l : List α} (h : l.length = 5) : ∃ a b c d e, l = [a, b, c, d, e] := by
  match l, h with
  | [a, b, c, d, e], _ => exact ⟨a, b, c, d, e, rfl⟩
theorem op_cells {w : World} {fuel : Nat} {cs : List Value} {p : List MemPlace} {x : List UInt8 × Int × Int} (h : DataW.trod (fun _ => ()) Tryz.prog w 0 (fun _ => true) false fuel 221 cs = some (opData x, p)) : cs = opCells x := by
  obtain ⟨y0, y1, y2, n, he, hl, t0, t1, t2⟩ := Deep.trod_struct3 Tryz.underlying221 h
  rw [cells27] at hl
  obtain ⟨c0, c1, c2, rfl⟩ := list3 hl
  simp only [icells9, cells5, cells3, List.drop, List.take] at t0 t1 t2
  obtain ⟨s, e0, e1, _⟩ := DataW.trod_string Tryz.underlying9 t0
  obtain ⟨z, e2, e3, _⟩ := DataW.trod_int Tryz.underlying5 t1
  obtain ⟨z', e4, e5, _⟩ := DataW.trod_int Tryz.underlying3 t2
  subst e1 e3 e5
  simp only [opData, Prod.mk.injEq, DataW.agg.injEq, List.cons.injEq, DataW.lit.injEq, Lit.string.injEq, Lit.int.injEq, and_true, true_and] at he
  simp only [List.cons.injEq, and_true] at e0 e2 e4
  subst e0 e2 e4
  obtain ⟨⟨h0, h1, h2⟩, _⟩ := he
  rw [opCells, h0, h1, h2]
theorem sh_cells {w : World} {fuel : Nat} {cs : List Value} {p : List MemPlace} {x : Int × Int × Int × Int × Int} (h : DataW.trod (fun _ => ()) Tryz.prog w 0 (fun _ => true) false fuel 242 cs = some (shData x, p)) : cs = shCells x := by
  obtain ⟨y0, y1, y2, y3, y4, n, he, hl, t0, t1, t2, t3, t4⟩ := trod_struct5 Tryz.underlying242 h
  rw [cells58] at hl
  obtain ⟨c0, c1, c2, c3, c4, rfl⟩ := list5 hl
  simp only [cells3, cells21, List.drop, List.take] at t0 t1 t2 t3 t4
  obtain ⟨z0, e0, e1, _⟩ := DataW.trod_int Tryz.underlying3 t0
  obtain ⟨z1, e2, e3, _⟩ := DataW.trod_int Tryz.underlying3 t1
  obtain ⟨z2, e4, e5, _⟩ := DataW.trod_int Tryz.underlying21 t2
  obtain ⟨z3, e6, e7, _⟩ := DataW.trod_int Tryz.underlying21 t3
  obtain ⟨z4, e8, e9, _⟩ := DataW.trod_int Tryz.underlying3 t4
  subst e1 e3 e5 e7 e9
  simp only [shData, Prod.mk.injEq, DataW.agg.injEq, List.cons.injEq, DataW.lit.injEq, Lit.int.injEq, and_true, true_and] at he
  simp only [List.cons.injEq, and_true] at e0 e2 e4 e6 e8
  subst e0 e2 e4 e6 e8
  obtain ⟨⟨h0, h1, h2, h3, h4⟩, _⟩ := he
  rw [shCells, h0, h1, h2, h3, h4]
theorem var_block {w : World} {n : String} {g : Nat} {cs : Array Value} (hg : Tryz.prog.globalNamed n = some g) (h : w.var? Tryz.prog n = some cs) : ∃ t z, w.heap[g]? = some (.cells cs t z) := by
  unfold World.var? at h
  rw [hg] at h
  simp only [Option.bind_some] at h
  split at h
  · rename_i cs' t z hb
    cases h
    exact ⟨t, z, hb⟩
  · cases h
theorem tab_of_laid {W : World} (h : laidMet Tryz.prog [("math/bits.deBruijn32tab", Rows.laid_math_bits_deBruijn32tab), ("math/bits.deBruijn64tab", Rows.laid_math_bits_deBruijn64tab), ("internal/strconv.uint64pow10", Rows.laid_internal_strconv_uint64pow10), ("spandrel/isa.ops", Rows.laid_spandrel_isa_ops), ("spandrel/isa.shapes", Rows.laid_spandrel_isa_shapes)] W) : Tab W := by
  obtain ⟨ps, ⟨_, _, _, _, _, _, _, _, _, _, ⟨_, _, _, _, _, _, _, _, _, _, ⟨_, _, _, _, _, _, _, _, _, _, ⟨g, t, cs, fuel, p, q, hg, ht, hv, hd, ⟨g', t', cs', fuel', p', q', hg', ht', hv', hd', _⟩, _⟩, _⟩, _⟩, _⟩, _⟩ := h
  obtain rfl := Option.some.inj (gOps.symm.trans hg)
  obtain rfl := Option.some.inj (gSh.symm.trans hg')
  obtain rfl := Option.some.inj (gOpsT.symm.trans ht)
  obtain rfl := Option.some.inj (gShT.symm.trans ht')
  rw [laid_ops] at hd
  rw [laid_sh] at hd'
  constructor
  · obtain ⟨xs, m, _, hx, hl, hn, hall⟩ := DataW.trod_array Tryz.underlying237 hd
    have hxs : xs.map (·.1) = opsT.map opData := by
      have := congrArg Prod.fst hx
      simpa using this.symm
    have : cs.toList = opsT.flatMap opCells := cut_flat opCells 3 (by omega) (fun _ => rfl) opsT cs.toList (by rw [hl, cells55]; rfl) fun i x hi => by
      have hi43 : i < 43 := (List.getElem?_eq_some_iff.1 hi).1
      have h1 := hall i hi43
      rw [cells27] at h1
      have h2 : (xs.map (·.1))[i]? = some (opData x) := by rw [hxs, List.getElem?_map, hi]; rfl
      rw [List.getElem?_map, Option.map_eq_some_iff] at h2
      obtain ⟨y, hy, hy2⟩ := h2
      rw [hy] at h1
      obtain ⟨y1, y2⟩ := y
      simp only at hy2
      subst hy2
      exact op_cells h1
    obtain ⟨t, z, hb⟩ := var_block hg hv
    exact ⟨t, z, by rw [hb, ← this]⟩
  · obtain ⟨xs, m, _, hx, hl, hn, hall⟩ := DataW.trod_array Tryz.underlying243 hd'
    have hxs : xs.map (·.1) = shT.map shData := by
      have := congrArg Prod.fst hx
      simpa using this.symm
    have : cs'.toList = shT.flatMap shCells := cut_flat shCells 5 (by omega) (fun _ => rfl) shT cs'.toList (by rw [hl, cells59]; rfl) fun i x hi => by
      have hi43 : i < 14 := (List.getElem?_eq_some_iff.1 hi).1
      have h1 := hall i hi43
      rw [cells58] at h1
      have h2 : (xs.map (·.1))[i]? = some (shData x) := by rw [hxs, List.getElem?_map, hi]; rfl
      rw [List.getElem?_map, Option.map_eq_some_iff] at h2
      obtain ⟨y, hy, hy2⟩ := h2
      rw [hy] at h1
      obtain ⟨y1, y2⟩ := y
      simp only at hy2
      subst hy2
      exact sh_cells h1
    obtain ⟨t, z, hb⟩ := var_block hg' hv'
    exact ⟨t, z, by rw [hb, ← this]⟩
abbrev laid5 : List (String × DataW Unit) := [("math/bits.deBruijn32tab", Rows.laid_math_bits_deBruijn32tab), ("math/bits.deBruijn64tab", Rows.laid_math_bits_deBruijn64tab), ("internal/strconv.uint64pow10", Rows.laid_internal_strconv_uint64pow10), ("spandrel/isa.ops", Rows.laid_spandrel_isa_ops), ("spandrel/isa.shapes", Rows.laid_spandrel_isa_shapes)]
theorem pow_of_laid {W : World} (h : laidMet Tryz.prog laid5 W) : Pow W := by
  have h1 := laidMet.tail (laidMet.tail h)
  exact Lib.tabIs_of_head (rest := [("spandrel/isa.ops", Rows.laid_spandrel_isa_ops), ("spandrel/isa.shapes", Rows.laid_spandrel_isa_shapes)]) gPow (by kernel_rfl) Tryz.underlying239 (by kernel_rfl) (by kernel_rfl) (by kernel_rfl) h1
theorem env_of_laid {W : World} (h : laidMet Tryz.prog laid5 W) : Env W := ⟨tab_of_laid h, pow_of_laid h⟩
def layAt (h : Array Obj) (g : Nat) (cs : Array Value) : Array Obj := h.modify g fun
  | .cells _ t frozen => .cells cs t frozen
  | o => o
def litCells (d : DataW Unit) : Array Value := match d with
  | .agg l => (l.filterMap fun
    | .lit (.int k z) => some (Value.int k z)
    | _ => none).toArray
  | _ => #[]
noncomputable def laidWorld (os : Os) : World :=
  { World.holding Tryz.prog os ⟨#[], #[], []⟩ with heap := layAt (layAt (layAt (layAt (layAt (World.holding Tryz.prog os ⟨#[], #[], []⟩).heap 0 (opsT.flatMap opCells).toArray) 2 (shT.flatMap shCells).toArray) 1 (litCells Rows.laid_internal_strconv_uint64pow10)) 3 (litCells Rows.laid_math_bits_deBruijn32tab)) 4 (litCells Rows.laid_math_bits_deBruijn64tab) }
theorem ownKnob_none : ownKnob Tryz.prog.godebug = none := by kernel_rfl
theorem laidOut : laidOutB Tryz.prog = true := by kernel_rfl
theorem laid_met5 (os : Os) (args : Array Value) : laidMet Tryz.prog laid5 ((laidWorld os).forCall (fun _ _ => 0) ⟨#[], args, []⟩).memory :=
  laidMet_of_run' 8 (by kernel_rfl) (by kernel_rfl)
end Go.Proofs.YtmndccbeddaphaaGreatDoor
namespace Go.Proofs.YtmndccbeddaphaaGreatDoor
open Go.ChangeShapes Go.WideShapes Go.ChangeAt Go.RowKit
set_option linter.unusedVariables false
set_option linter.unusedSimpArgs false
set_option maxRecDepth 100000
theorem bytes5 : Tryz.prog.bytesOf 5 = 1 := by kernel_rfl
theorem lies_nil (w : World) (a : Option Addr) : O.Lies w a [] := ⟨fun z hz => (by cases hz), .inl rfl⟩
theorem lies_open {w : World} {x : Addr} {zs : List Int} {len : Nat} (hl : len ≤ zs.length) (hcell : ∀ i, i < zs.length → w.cell? (x.add i) = some (.int .u8 (zs.getD i 0)))
    (hwz : ∀ n ∈ zs, (Lit.int .u8 n).wf = true) : O.Lies w (some x) (zs.take len) := by
  refine ⟨fun z hz => ?_, ?_⟩
  · have := bounds_u8 (hwz z (List.mem_of_mem_take hz))
    omega
  · by_cases h0 : len = 0
    · subst h0
      exact .inl (by simp)
    · refine .inr ?_
      obtain ⟨b, off, spot⟩ := x
      have hspot : spot = none := by simpa [Addr.add] using World.cell?_spot (hcell 0 (by omega))
      subst hspot
      refine ⟨b, off, rfl, fun i hi => ?_⟩
      simp at hi
      have := hcell i (by omega)
      have hadd : (⟨b, off, none⟩ : Addr).add i = ⟨b, off + i, none⟩ := by unfold Addr.add; split <;> simp_all
      rw [hadd] at this
      rw [this]
      simp [List.getElem?_take_of_lt (show i < len by omega)]
theorem slice_lt {W : World} {base : Nat} {x : Addr} {l c : Nat} (hval : Value.okWide Tryz.prog W .any base 22 (.slice (some x) l c)) : x.block < W.heap.size := by
  simp only [Value.okWide, Tryz.underlying22, Cell.okWide, Cell.ok, World.has] at hval
  obtain ⟨_, _, _, _, row, cells, hs, _⟩ := hval
  unfold World.shape? at hs
  rcases Nat.lt_or_ge x.block W.heap.size with h | h
  · exact h
  · rw [Array.getElem?_eq_none h] at hs
    cases hs
theorem open_bytesR {H : Type} {enc : TypeId × Value → H} {W : World} {base : Nat} {v : Value} {d : DataW H} {p : List MemPlace} {ts : List TypeId} {ds : List (DataW H)} {j : Nat}
    (hval : Value.okWide Tryz.prog W .any base 22 v) (h : DataW.Trod enc Tryz.prog W 0 (fun _ => true) true 22 v d p) (hsz : (DataW.weightsEach Tryz.prog ts ds).all (· ≤ reachBytes) = true) (ht : ts[j]? = some 22) (hd : ds[j]? = some d) :
    ∃ a zs c, v = .slice a zs.length c ∧ O.Lies W a zs ∧ zs.length ≤ c ∧ (∀ x, a = some x → x.block < W.heap.size) ∧ c ≤ 140737488351232 := by
  obtain ⟨a0, len0, cap0, rfl⟩ := okWide_slice Tryz.underlying22 hval
  obtain ⟨fuel, hf⟩ := h
  rcases open_ints Tryz.underlying22 Tryz.underlying5 (by kernel_rfl) hf with ⟨hcs, hx⟩ | ⟨x, l, c, zs, hcs, _, hl, hm, hz, hx, hcell, hwz⟩
  · simp [Value.cells] at hcs
    obtain ⟨rfl, rfl, rfl⟩ := hcs
    exact ⟨none, [], 0, rfl, lies_nil _ _, Nat.le_refl _, fun x hx => (by cases hx), by omega⟩
  · simp [Value.cells] at hcs
    obtain ⟨rfl, rfl, rfl⟩ := hcs
    simp only [Prod.mk.injEq] at hx
    have hz' : zs.length = cap0 := by simpa using hz
    have hs := sized_slice hsz (j := j) (t := 22) (e := 5) ht (by rw [hd, hx.1]) Tryz.underlying22
    rw [bytes5] at hs
    simp only [lits, List.length_map, List.length_take, List.length_drop, reachBytes] at hs
    have e1 : (zs.take len0).length = len0 := by simp; omega
    exact ⟨some x, zs.take len0, cap0, by rw [e1], lies_open (by omega) hcell hwz, by omega, fun y hy => (by cases hy; exact slice_lt hval), by omega⟩
end Go.Proofs.YtmndccbeddaphaaGreatDoor
