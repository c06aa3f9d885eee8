/- How units and bytes that came in are opened. -/
import Derived.Test.YtmndccbeddaphaaGreatDoorUGl
import Derived.Test.YtmndccbeddaphaaGreatDoorEr1
import Derived.Deep.SlicePairs
import Derived.Deep.Strs
import Derived.Lib.SmallJoins
import Derived.ChangeArms
import Derived.Test.YtmndccbeddaphaaGreatDoorLaid
import Derived.Test.YtmndccbeddaphaaGreatDoorOwr5
import Derived.SizedLaws
import Derived.ChangeSlices
/- How a Unit that came in is opened: items, equs, names lie in memory; what the bound on its bulk gives. -/
namespace Go.Proofs.YtmndccbeddaphaaGreatDoor
open Go.ChangeShapes Go.WideShapes Go.ChangeAt Go.RowKit
set_option linter.unusedVariables false
set_option maxRecDepth 100000

theorem cel3 : Tryz.prog.cellsOf 3 = 1 := by kernel_rfl
theorem cel9 : Tryz.prog.cellsOf 9 = 1 := by kernel_rfl
theorem cel21 : Tryz.prog.cellsOf 21 = 1 := by kernel_rfl
theorem cel22 : Tryz.prog.cellsOf 26 = 1 := by kernel_rfl
theorem cel23 : Tryz.prog.cellsOf 27 = 1 := by kernel_rfl
theorem cel24 : Tryz.prog.cellsOf 28 = 1 := by kernel_rfl
theorem cel26 : Tryz.prog.cellsOf 30 = 4 := by kernel_rfl
theorem cel85 : Tryz.prog.cellsOf 81 = 5 := by kernel_rfl
theorem cel86 : Tryz.prog.cellsOf 82 = 1 := by kernel_rfl
theorem cel87 : Tryz.prog.cellsOf 78 = 1 := by kernel_rfl
theorem cel89 : Tryz.prog.cellsOf 84 = 2 := by kernel_rfl
theorem cel91 : Tryz.prog.cellsOf 86 = 10 := by kernel_rfl
theorem cel101 : Tryz.prog.cellsOf 90 = 3 := by kernel_rfl
theorem cel123 : Tryz.prog.cellsOf 107 = 2 := by kernel_rfl

theorem bulk_pos {H : Type} (d : DataW H) : 1 ≤ Rows.uptoBulk d := by
  cases d with
  | lit l => cases l <;> simp [Rows.uptoBulk]
  | nil => simp [Rows.uptoBulk]
  | ptr d => simp [Rows.uptoBulk]
  | slice elems spare => simp [Rows.uptoBulk]
  | agg parts => simp [Rows.uptoBulk]
  | iface t d => simp [Rows.uptoBulk]
  | map entries => simp [Rows.uptoBulk]
  | held h => simp [Rows.uptoBulk]
theorem bulk_all {H : Type} (l : List (DataW H)) : l.length ≤ Rows.uptoBulkAll l := by
  induction l with
  | nil => simp [Rows.uptoBulkAll]
  | cons x r ih =>
    have := bulk_pos x
    simp only [Rows.uptoBulkAll, List.length_cons]
    omega
theorem bulk_mem {H : Type} (l : List (DataW H)) (d : DataW H) (h : d ∈ l) : Rows.uptoBulk d ≤ Rows.uptoBulkAll l := by
  induction l with
  | nil => cases h
  | cons x r ih =>
    simp only [Rows.uptoBulkAll]
    rcases List.mem_cons.1 h with rfl | h
    · omega
    · have := ih h
      omega

def nameV : Value → List UInt8
  | .string s => s.data.toList
  | _ => []

theorem str_bytes (s : ByteArray) : s = str s.data.toList := by simp [str]

/-- a list out of what each place is -/
theorem list_each {α : Type} {n : Nat} {P : Nat → α → Prop} (h : ∀ i, i < n → ∃ x, P i x) : ∃ l : List α, l.length = n ∧ ∀ i x, l[i]? = some x → P i x := by
  induction n with
  | zero => exact ⟨[], rfl, fun i x hx => by simp at hx⟩
  | succ n ih =>
    obtain ⟨l, hl, he⟩ := ih fun i hi => h i (by omega)
    obtain ⟨x, hx⟩ := h n (by omega)
    refine ⟨l ++ [x], by simp [hl], fun i y hy => ?_⟩
    by_cases hi : i < l.length
    · rw [List.getElem?_append_left hi] at hy
      exact he i y hy
    · have hi2 := (List.getElem?_eq_some_iff.1 hy).1
      simp at hi2
      obtain rfl : i = l.length := by omega
      simp at hy
      subst hy
      rw [hl]
      exact hx

/-- what a Lin in some cells is -/
structure LinC (W : World) (B : Nat) (a : Option Addr) (c : Nat) (x : Lin) : Prop where
  lies : TmLies W a x.terms
  lo : 0 ≤ x.const
  hi : x.const < 4294967296
  few : x.terms.length ≤ B
  each : ∀ t ∈ x.terms, 0 ≤ t.coef ∧ t.coef < 4294967296 ∧ t.name.length ≤ B

theorem open_linC {H : Type} {enc : TypeId × Value → H} {W : World} {c0 c1 : Value} {d : DataW H} {p : List MemPlace} {fuel : Nat}
    (hf : DataW.trod enc Tryz.prog W 0 (fun _ => true) true fuel 84 [c0, c1] = some (d, p)) :
    ∃ a c x, c0 = .slice a x.terms.length c ∧ c1 = .int .u32 x.const ∧ LinC W (Rows.uptoBulk d) a c x := by
  obtain ⟨y0, y1, n, hx, hl, t0, t1⟩ := trod_struct2 Tryz.underlying84 hf
  simp only [cel86, cel87, List.drop, List.take] at t0 t1
  obtain ⟨k, hk, rfl, wk⟩ := DataW.trod_int Tryz.underlying78 t1
  simp only [List.cons.injEq, and_true] at hk
  subst hk
  have hb := bounds_u32 wk
  simp only [Prod.mk.injEq] at hx
  obtain ⟨rfl, rfl⟩ := hx
  rcases Deep.open_slice_pairs Tryz.underlying82 Tryz.underlying107 cel123 rfl rfl cel9 cel87 t0 with ⟨hc, rfl⟩ | ⟨a, len, cap, m, n', V0, V1, D0, D1, P0, P1, hc, _, hlc, hcm, hm, rfl, hall⟩
  · simp only [List.cons.injEq, and_true] at hc
    subst hc
    exact ⟨none, 0, ⟨[], k⟩, rfl, rfl, ⟨.inl rfl, hb.1, by have := hb.2; show k < _; omega, Nat.zero_le _, (fun t ht => by (cases ht))⟩⟩
  · simp only [List.cons.injEq, and_true] at hc
    subst hc
    simp only [if_true] at hm
    subst hm
    have hone : ∀ i, i < len → V0 i = .string (str (nameV (V0 i))) ∧ V1 i = .int .u32 (intOf (V1 i)) ∧ 0 ≤ intOf (V1 i) ∧ intOf (V1 i) < 4294967296 ∧ (nameV (V0 i)).length + 1 ≤ Rows.uptoBulk (D0 i) := fun i hi => by
      obtain ⟨_, _, h0, h1⟩ := hall i (by omega)
      obtain ⟨s, e0, e1, _⟩ := DataW.trod_string Tryz.underlying9 h0
      obtain ⟨z, e2, e3, wz⟩ := DataW.trod_int Tryz.underlying78 h1
      simp only [List.cons.injEq, and_true] at e0 e2
      simp only [Prod.mk.injEq] at e1 e3
      rw [e0, e2, e1.1]
      have := bounds_u32 wz
      refine ⟨?_, rfl, this.1, by simp only [intOf]; omega, by simp [nameV, Rows.uptoBulk]⟩
      simp [nameV, str]
    have hbulk : ∀ i, i < len → Rows.uptoBulk (D0 i) + 1 ≤ Rows.uptoBulkAll ((List.range len).map fun i => DataW.agg [D0 i, D1 i]) := fun i hi => by
      have := bulk_mem ((List.range len).map fun i => DataW.agg [D0 i, D1 i]) (.agg [D0 i, D1 i]) (List.mem_map.2 ⟨i, List.mem_range.2 hi, rfl⟩)
      simp only [Rows.uptoBulk, Rows.uptoBulkAll] at this
      omega
    have hfew := bulk_all ((List.range len).map fun i => DataW.agg [D0 i, D1 i])
    simp only [List.length_map, List.length_range] at hfew
    have hB : Rows.uptoBulkAll ((List.range len).map fun i => DataW.agg [D0 i, D1 i]) ≤ Rows.uptoBulk (DataW.agg [DataW.slice ((List.range len).map fun i => DataW.agg [D0 i, D1 i]) ((List.range (m - len)).map fun j => DataW.agg [D0 (len + j), D1 (len + j)]), DataW.lit (Lit.int IntKind.u32 k)]) := by
      simp only [Rows.uptoBulk, Rows.uptoBulkAll]
      omega
    have hat : ∀ i t, ((List.range len).map fun i => (⟨nameV (V0 i), intOf (V1 i)⟩ : Tm))[i]? = some t → i < len ∧ t = ⟨nameV (V0 i), intOf (V1 i)⟩ := fun i t ht => by
      rw [List.getElem?_map, Option.map_eq_some_iff] at ht
      obtain ⟨j, hj, rfl⟩ := ht
      obtain ⟨hj1, hj2⟩ := List.getElem?_eq_some_iff.1 hj
      simp at hj1 hj2
      subst hj2
      exact ⟨hj1, rfl⟩
    refine ⟨some a, m, ⟨(List.range len).map fun i => ⟨nameV (V0 i), intOf (V1 i)⟩, k⟩, by simp, rfl, ⟨?_, hb.1, by have := hb.2; show k < _; omega, by simp; omega, fun t ht => ?_⟩⟩
    · by_cases h0 : len = 0
      · subst h0
        exact .inl rfl
      · obtain ⟨b, off, spot⟩ := a
        have hspot : spot = none := by simpa [Addr.add] using World.cell?_spot (hall 0 (by omega)).1
        subst hspot
        have hadd : ∀ j, (⟨b, off, none⟩ : Addr).add j = ⟨b, off + j, none⟩ := fun j => by unfold Addr.add; split <;> simp_all
        refine .inr ⟨b, off, rfl, ?_, fun i t ht => ?_⟩
        · have h1 := (hall 0 (by omega)).1
          apply Decidable.byContradiction
          intro hn
          unfold World.cell? at h1
          simp [Array.getElem?_eq_none (show W.heap.size ≤ b by omega), hadd] at h1
        · obtain ⟨hi, rfl⟩ := hat i t ht
          obtain ⟨k0, k1, _⟩ := hall i (by omega)
          rw [hadd] at k0 k1
          obtain ⟨e0, e1, _⟩ := hone i hi
          exact ⟨by rw [k0, ← e0], by rw [Nat.add_assoc, k1, ← e1]⟩
    · obtain ⟨i, hi⟩ := List.getElem?_of_mem ht
      obtain ⟨hi2, rfl⟩ := hat i t hi
      obtain ⟨_, _, e2, e3, e4⟩ := hone i hi2
      have := hbulk i hi2
      exact ⟨e2, e3, by simp only; omega⟩

theorem list10 {α : Type} {l : List α} (h : l.length = 10) : ∃ a b c d e f g i j k, l = [a, b, c, d, e, f, g, i, j, k] := by
  match l, h with
  | [a, b, c, d, e, f, g, i, j, k], _ => exact ⟨a, b, c, d, e, f, g, i, j, k, rfl⟩

/-- what an Item in some cells is -/
structure ItC (W : World) (B : Nat) (cs : List Value) (x : Itm) (va : Option Addr) (vc : Nat) : Prop where
  is : cs = (itmCells x (.slice va x.e.terms.length vc)).toList
  name : x.name.length ≤ B
  m : -2147483648 ≤ x.m ∧ x.m ≤ 2147483647
  n : -9223372036854775808 ≤ x.n ∧ x.n ≤ 9223372036854775807
  lin : LinC W B va vc x.e

theorem LinC.mono {W : World} {B C : Nat} {a : Option Addr} {c : Nat} {x : Lin} (h : LinC W B a c x) (hBC : B ≤ C) : LinC W C a c x :=
  ⟨h.lies, h.lo, h.hi, by have := h.few; omega, fun t ht => ⟨(h.each t ht).1, (h.each t ht).2.1, by have := (h.each t ht).2.2; omega⟩⟩

theorem open_itC {H : Type} {enc : TypeId × Value → H} {W : World} {cs : List Value} {d : DataW H} {p : List MemPlace} {fuel : Nat}
    (hf : DataW.trod enc Tryz.prog W 0 (fun _ => true) true fuel 86 cs = some (d, p)) :
    ∃ x va vc, ItC W (Rows.uptoBulk d) cs x va vc := by
  obtain ⟨y0, y1, y2, y3, y4, n, hx, hl, t0, t1, t2, t3, t4⟩ := trod_struct5 Tryz.underlying86 hf
  rw [cel91] at hl
  obtain ⟨c0, c1, c2, c3, c4, c5, c6, c7, c8, c9, rfl⟩ := list10 hl
  simp only [cel3, cel9, cel85, cel89, List.drop, List.take] at t0 t1 t2 t3 t4
  obtain ⟨z0, e0, _, w0⟩ := DataW.trod_int Tryz.underlying3 t0
  obtain ⟨s, e1, f1, _⟩ := DataW.trod_string Tryz.underlying9 t1
  obtain ⟨z9, e9, _, w9⟩ := DataW.trod_int Tryz.underlying3 t4
  obtain ⟨u0, u1, u2, u3, u4, n2, hx2, hl2, s0, s1, s2, s3, s4⟩ := trod_struct5 Tryz.underlying81 t2
  simp only [cel3, cel21, List.drop, List.take] at s0 s1 s2 s3 s4
  obtain ⟨z2, e2, _, w2⟩ := DataW.trod_int Tryz.underlying3 s0
  obtain ⟨z3, e3, _, w3⟩ := DataW.trod_int Tryz.underlying3 s1
  obtain ⟨z4, e4, _, w4⟩ := DataW.trod_int Tryz.underlying3 s2
  obtain ⟨z5, e5, _, w5⟩ := DataW.trod_int Tryz.underlying21 s3
  obtain ⟨z6, e6, _, w6⟩ := DataW.trod_int Tryz.underlying3 s4
  simp only [List.cons.injEq, and_true] at e0 e1 e2 e3 e4 e5 e6 e9
  subst e0 e1 e2 e3 e4 e5 e6 e9
  obtain ⟨d3, p3⟩ := y3
  obtain ⟨va, vc, L, rfl, rfl, hL⟩ := open_linC t3
  simp only [Prod.mk.injEq] at hx
  obtain ⟨rfl, _⟩ := hx
  have hB3 : Rows.uptoBulk d3 ≤ Rows.uptoBulk (DataW.agg [y0.1, y1.1, y2.1, d3, y4.1]) := by
    simp only [Rows.uptoBulk, Rows.uptoBulkAll]
    omega
  have hB1 : s.data.toList.length ≤ Rows.uptoBulk (DataW.agg [y0.1, y1.1, y2.1, d3, y4.1]) := by
    rw [f1]
    simp only [Rows.uptoBulk, Rows.uptoBulkAll]
    omega
  refine ⟨⟨z0, s.data.toList, z2, z3, z4, z5, z6, L, z9⟩, va, vc, ⟨?_, hB1, bounds_i32 w5, bounds_i64 w9, hL.mono hB3⟩⟩
  show _ = [_, _, _, _, _, _, _, _, _, _]
  simp [← str_bytes]

theorem add_none (b off j : Nat) : (⟨b, off, none⟩ : Addr).add j = ⟨b, off + j, none⟩ := by
  unfold Addr.add
  split <;> simp_all
theorem cells_at {W : World} {b off k : Nat} {cs : List Value} (h : W.cells? 0 ⟨b, off, none⟩ k = some cs) : ∀ j, j < k → W.cell? ⟨b, off + j, none⟩ = cs[j]? := fun j hj => by
  rw [← (World.cells?_some h).2.2 j hj, add_none]

/-- an address at which there is something is a plain one -/
theorem plain_addr {W : World} {a : Addr} {k : Nat} {cs : List Value} (hk : 0 < k) (h : W.cells? 0 a k = some cs) : ∃ g o, a = ⟨g, o, none⟩ ∧ g < W.heap.size := by
  obtain ⟨h1, h2, h3⟩ := World.cells?_some h
  have h0 := h3 0 hk
  rw [List.getElem?_eq_getElem (by omega)] at h0
  have hs := World.cell?_spot h0
  obtain ⟨b, off, spot⟩ := a
  have hspot : spot = none := by simpa [Addr.add] using hs
  subst hspot
  exact ⟨b, off, rfl, World.cells?_block h hk⟩

theorem open_items {H : Type} {enc : TypeId × Value → H} {W : World} {c : Value} {d : DataW H} {p : List MemPlace} {fuel : Nat}
    (hf : DataW.trod enc Tryz.prog W 0 (fun _ => true) true fuel 26 [c] = some (d, p)) :
    ∃ a vc l, c = .slice a l.length vc ∧ ItIn W a l ∧ l.length ≤ Rows.uptoBulk d ∧ l.length ≤ vc ∧ vc ≤ maxLen ∧ ∀ x ∈ l, ∃ va vc, ItC W (Rows.uptoBulk d) (itmCells x (.slice va x.e.terms.length vc)).toList x va vc := by
  rcases Deep.open_slice Tryz.underlying26 hf with ⟨hc, hx⟩ | ⟨a, len, cap, m, n, D, Pl, hc, _, hlc, hcm, hm, hx, hall⟩
  · simp only [List.cons.injEq, and_true] at hc
    subst hc
    exact ⟨none, 0, [], rfl, .inl rfl, Nat.zero_le _, Nat.le_refl _, Nat.zero_le _, fun x hx => by cases hx⟩
  · simp only [List.cons.injEq, and_true] at hc
    subst hc
    simp only [if_true] at hm
    subst hm
    simp only [Prod.mk.injEq] at hx
    obtain ⟨rfl, _⟩ := hx
    simp only [cel91] at hall
    have hfew := bulk_all ((List.range len).map D)
    simp only [List.length_map, List.length_range] at hfew
    have hB : Rows.uptoBulkAll ((List.range len).map D) ≤ Rows.uptoBulk (DataW.slice ((List.range len).map D) ((List.range (m - len)).map fun j => D (len + j))) := by
      simp only [Rows.uptoBulk]
      omega
    have heach : ∀ i, i < len → ∃ x : Itm, ∃ cs va vc, W.cells? 0 (a.add (i * 10)) 10 = some cs ∧ ItC W (Rows.uptoBulk (DataW.slice ((List.range len).map D) ((List.range (m - len)).map fun j => D (len + j)))) cs x va vc := fun i hi => by
      obtain ⟨cs, h1, h2⟩ := hall i (by omega)
      obtain ⟨x, va, vc, hx⟩ := open_itC h2
      have hb := bulk_mem ((List.range len).map D) (D i) (List.mem_map.2 ⟨i, List.mem_range.2 hi, rfl⟩)
      exact ⟨x, cs, va, vc, h1, hx.is, by have := hx.name; omega, hx.m, hx.n, hx.lin.mono (by omega)⟩
    obtain ⟨l, hl, hP⟩ := list_each heach
    refine ⟨some a, m, l, by rw [hl], ?_, by omega, by omega, hcm, fun x hx => ?_⟩
    · by_cases h0 : l = []
      · exact .inl h0
      · have hpos : 0 < l.length := List.length_pos_iff.2 h0
        obtain ⟨_, cs0, va0, vc0, hc0, _⟩ := heach 0 (by omega)
        rw [Nat.zero_mul, show a.add 0 = a from by simp [Addr.add]] at hc0
        obtain ⟨g, o, rfl, hg⟩ := plain_addr (by omega) hc0
        refine .inr ⟨g, o, rfl, hg, fun i x hx => ?_⟩
        obtain ⟨cs, va, vc, h1, h2⟩ := hP i x hx
        rw [add_none] at h1
        have hcl := cells_at h1
        rw [h2.is] at hcl
        exact ⟨va, vc, ⟨hcl 0 (by omega), hcl 1 (by omega), hcl 2 (by omega), hcl 3 (by omega), hcl 4 (by omega), hcl 5 (by omega), hcl 6 (by omega), hcl 7 (by omega), hcl 8 (by omega), hcl 9 (by omega)⟩, h2.lin.lies⟩
    · obtain ⟨i, hi⟩ := List.getElem?_of_mem hx
      obtain ⟨cs, va, vc, h1, h2⟩ := hP i x hi
      exact ⟨va, vc, rfl, h2.name, h2.m, h2.n, h2.lin⟩

/-- what an Equ in some cells is -/
structure EqC (W : World) (B : Nat) (cs : List Value) (q : List UInt8 × Lin) (va : Option Addr) (vc : Nat) : Prop where
  is : cs = [.string (str q.1), .slice va q.2.terms.length vc, .int .u32 q.2.const]
  name : q.1.length ≤ B
  lin : LinC W B va vc q.2

theorem open_eqC {H : Type} {enc : TypeId × Value → H} {W : World} {cs : List Value} {d : DataW H} {p : List MemPlace} {fuel : Nat}
    (hf : DataW.trod enc Tryz.prog W 0 (fun _ => true) true fuel 90 cs = some (d, p)) :
    ∃ q va vc, EqC W (Rows.uptoBulk d) cs q va vc := by
  obtain ⟨y0, y1, n, hx, hl, t0, t1⟩ := trod_struct2 Tryz.underlying90 hf
  rw [cel101] at hl
  obtain ⟨c0, c1, c2, rfl⟩ := list3 hl
  simp only [cel9, cel89, List.drop, List.take] at t0 t1
  obtain ⟨s, e1, f1, _⟩ := DataW.trod_string Tryz.underlying9 t0
  simp only [List.cons.injEq, and_true] at e1
  subst e1
  obtain ⟨d1, p1⟩ := y1
  obtain ⟨va, vc, L, rfl, rfl, hL⟩ := open_linC t1
  simp only [Prod.mk.injEq] at hx
  obtain ⟨rfl, _⟩ := hx
  have hB3 : Rows.uptoBulk d1 ≤ Rows.uptoBulk (DataW.agg [y0.1, d1]) := by
    simp only [Rows.uptoBulk, Rows.uptoBulkAll]
    omega
  have hB1 : s.data.toList.length ≤ Rows.uptoBulk (DataW.agg [y0.1, d1]) := by
    rw [f1]
    simp only [Rows.uptoBulk, Rows.uptoBulkAll]
    omega
  exact ⟨(s.data.toList, L), va, vc, ⟨by simp [← str_bytes], hB1, hL.mono hB3⟩⟩

theorem open_equs {H : Type} {enc : TypeId × Value → H} {W : World} {c : Value} {d : DataW H} {p : List MemPlace} {fuel : Nat}
    (hf : DataW.trod enc Tryz.prog W 0 (fun _ => true) true fuel 27 [c] = some (d, p)) :
    ∃ a vc l, c = .slice a l.length vc ∧ EqIn W a l ∧ l.length ≤ Rows.uptoBulk d ∧ l.length ≤ vc ∧ vc ≤ maxLen ∧ ∀ q ∈ l, ∃ va vc, EqC W (Rows.uptoBulk d) [.string (str q.1), .slice va q.2.terms.length vc, .int .u32 q.2.const] q va vc := by
  rcases Deep.open_slice Tryz.underlying27 hf with ⟨hc, hx⟩ | ⟨a, len, cap, m, n, D, Pl, hc, _, hlc, hcm, hm, hx, hall⟩
  · simp only [List.cons.injEq, and_true] at hc
    subst hc
    exact ⟨none, 0, [], rfl, .inl rfl, Nat.zero_le _, Nat.le_refl _, Nat.zero_le _, fun x hx => by cases hx⟩
  · simp only [List.cons.injEq, and_true] at hc
    subst hc
    simp only [if_true] at hm
    subst hm
    simp only [Prod.mk.injEq] at hx
    obtain ⟨rfl, _⟩ := hx
    simp only [cel101] at hall
    have hfew := bulk_all ((List.range len).map D)
    simp only [List.length_map, List.length_range] at hfew
    have hB : Rows.uptoBulkAll ((List.range len).map D) ≤ Rows.uptoBulk (DataW.slice ((List.range len).map D) ((List.range (m - len)).map fun j => D (len + j))) := by
      simp only [Rows.uptoBulk]
      omega
    have heach : ∀ i, i < len → ∃ q : List UInt8 × Lin, ∃ cs va vc, W.cells? 0 (a.add (i * 3)) 3 = some cs ∧ EqC W (Rows.uptoBulk (DataW.slice ((List.range len).map D) ((List.range (m - len)).map fun j => D (len + j)))) cs q va vc := fun i hi => by
      obtain ⟨cs, h1, h2⟩ := hall i (by omega)
      obtain ⟨x, va, vc, hx⟩ := open_eqC h2
      have hb := bulk_mem ((List.range len).map D) (D i) (List.mem_map.2 ⟨i, List.mem_range.2 hi, rfl⟩)
      exact ⟨x, cs, va, vc, h1, hx.is, by have := hx.name; omega, hx.lin.mono (by omega)⟩
    obtain ⟨l, hl, hP⟩ := list_each heach
    refine ⟨some a, m, l, by rw [hl], ?_, by omega, by omega, hcm, fun x hx => ?_⟩
    · by_cases h0 : l = []
      · exact .inl h0
      · have hpos : 0 < l.length := List.length_pos_iff.2 h0
        obtain ⟨_, cs0, va0, vc0, hc0, _⟩ := heach 0 (by omega)
        rw [Nat.zero_mul, show a.add 0 = a from by simp [Addr.add]] at hc0
        obtain ⟨g, o, rfl, hg⟩ := plain_addr (by omega) hc0
        refine .inr ⟨g, o, rfl, hg, fun i x hx => ?_⟩
        obtain ⟨cs, va, vc, h1, h2⟩ := hP i x hx
        rw [add_none] at h1
        have hcl := cells_at h1
        rw [h2.is] at hcl
        exact ⟨va, vc, hcl 0 (by omega), hcl 1 (by omega), hcl 2 (by omega), h2.lin.lies⟩
    · obtain ⟨i, hi⟩ := List.getElem?_of_mem hx
      obtain ⟨cs, va, vc, h1, h2⟩ := hP i x hi
      exact ⟨va, vc, rfl, h2.name, h2.lin⟩

theorem open_globs {H : Type} {enc : TypeId × Value → H} {W : World} {c : Value} {d : DataW H} {p : List MemPlace} {fuel : Nat}
    (hf : DataW.trod enc Tryz.prog W 0 (fun _ => true) true fuel 28 [c] = some (d, p)) :
    ∃ a vc l, c = .slice a l.length vc ∧ StIn W a l ∧ l.length ≤ Rows.uptoBulk d ∧ l.length ≤ vc ∧ vc ≤ maxLen ∧ ∀ s ∈ l, s.length ≤ Rows.uptoBulk d := by
  rcases Deep.open_strs Tryz.underlying28 Tryz.underlying9 cel9 hf with ⟨hc, hx⟩ | ⟨a, len, cap, m, Sx, hc, _, hlc, hcm, hm, hx, hall⟩
  · simp only [List.cons.injEq, and_true] at hc
    subst hc
    exact ⟨none, 0, [], rfl, .inl rfl, Nat.zero_le _, Nat.le_refl _, Nat.zero_le _, fun x hx => by cases hx⟩
  · simp only [List.cons.injEq, and_true] at hc
    subst hc
    simp only [if_true] at hm
    subst hm
    simp only [Prod.mk.injEq] at hx
    obtain ⟨rfl, _⟩ := hx
    have hfew := bulk_all ((List.range len).map fun i => (DataW.lit (.string (Sx i).data.toList) : DataW H))
    simp only [List.length_map, List.length_range] at hfew
    have hB : Rows.uptoBulkAll ((List.range len).map fun i => (DataW.lit (.string (Sx i).data.toList) : DataW H)) ≤ Rows.uptoBulk (DataW.slice ((List.range len).map fun i => (DataW.lit (.string (Sx i).data.toList) : DataW H)) ((List.range (m - len)).map fun j => DataW.lit (.string (Sx (len + j)).data.toList))) := by
      simp only [Rows.uptoBulk]
      omega
    have hat : ∀ i t, ((List.range len).map fun i => (Sx i).data.toList)[i]? = some t → i < len ∧ t = (Sx i).data.toList := fun i t ht => by
      rw [List.getElem?_map, Option.map_eq_some_iff] at ht
      obtain ⟨j, hj, rfl⟩ := ht
      obtain ⟨hj1, hj2⟩ := List.getElem?_eq_some_iff.1 hj
      simp at hj1 hj2
      subst hj2
      exact ⟨hj1, rfl⟩
    refine ⟨some a, m, (List.range len).map fun i => (Sx i).data.toList, by simp, ?_, by simp; omega, by simpa using hlc, hcm, fun s hs => ?_⟩
    · by_cases h0 : len = 0
      · subst h0; exact .inl rfl
      · have hc0 : W.cells? 0 a 1 = some [.string (Sx 0)] := cells?_one (Nat.zero_le _) (by have := (hall 0 (by omega)).1; rwa [show a.add 0 = a from by simp [Addr.add]] at this)
        obtain ⟨g, o, rfl, hg⟩ := plain_addr (by omega) hc0
        refine .inr ⟨g, o, rfl, hg, fun i s hs => ?_⟩
        obtain ⟨hi, rfl⟩ := hat i s hs
        have := (hall i (by omega)).1
        rw [add_none] at this
        rw [this, ← str_bytes]
    · obtain ⟨i, hi⟩ := List.getElem?_of_mem hs
      obtain ⟨hi2, rfl⟩ := hat i s hi
      have hb := bulk_mem ((List.range len).map fun i => (DataW.lit (.string (Sx i).data.toList) : DataW H)) (DataW.lit (.string (Sx i).data.toList)) (List.mem_map.2 ⟨i, List.mem_range.2 hi2, rfl⟩)
      have h1 : (Sx i).data.toList.length ≤ Rows.uptoBulk (DataW.lit (.string (Sx i).data.toList) : DataW H) := by simp only [Rows.uptoBulk]; omega
      omega

/-- a Unit that came in -/
structure UIn (W : World) (v : Value) (B : Nat) (ta da ea ga : Option Addr) (tc dc ec gc : Nat) (u : UVal) : Prop where
  is : v = .agg (unitV ta tc da dc ea ec ga gc u)
  lies : UnitIn W ta da ea ga u
  few : u.text.length ≤ B ∧ u.data.length ≤ B ∧ u.equs.length ≤ B ∧ u.globs.length ≤ B
  caps : (u.text.length ≤ tc ∧ tc ≤ maxLen) ∧ (u.data.length ≤ dc ∧ dc ≤ maxLen) ∧ (u.equs.length ≤ ec ∧ ec ≤ maxLen) ∧ (u.globs.length ≤ gc ∧ gc ≤ maxLen)
  text : ∀ x ∈ u.text, ∃ va vc, ItC W B (itmCells x (.slice va x.e.terms.length vc)).toList x va vc
  data : ∀ x ∈ u.data, ∃ va vc, ItC W B (itmCells x (.slice va x.e.terms.length vc)).toList x va vc
  equs : ∀ q ∈ u.equs, ∃ va vc, EqC W B [.string (str q.1), .slice va q.2.terms.length vc, .int .u32 q.2.const] q va vc
  globs : ∀ s ∈ u.globs, s.length ≤ B

theorem ItC.mono {W : World} {B C : Nat} {cs : List Value} {x : Itm} {va : Option Addr} {vc : Nat} (h : ItC W B cs x va vc) (hB : B ≤ C) : ItC W C cs x va vc := ⟨h.is, by have := h.name; omega, h.m, h.n, h.lin.mono hB⟩
theorem EqC.mono {W : World} {B C : Nat} {cs : List Value} {q : List UInt8 × Lin} {va : Option Addr} {vc : Nat} (h : EqC W B cs q va vc) (hB : B ≤ C) : EqC W C cs q va vc := ⟨h.is, by have := h.name; omega, h.lin.mono hB⟩

theorem list4 {α : Type} {l : List α} (h : l.length = 4) : ∃ a b c d, l = [a, b, c, d] := by
  match l, h with
  | [a, b, c, d], _ => exact ⟨a, b, c, d, rfl⟩

theorem open_unit {H : Type} {enc : TypeId × Value → H} {W : World} {base : Nat} {v : Value} {d : DataW H} {p : List MemPlace}
    (hval : Value.okWide Tryz.prog W .any base 30 v) (h : DataW.Trod enc Tryz.prog W 0 (fun _ => true) true 30 v d p) :
    ∃ ta da ea ga tc dc ec gc u, UIn W v (Rows.uptoBulk d) ta da ea ga tc dc ec gc u := by
  obtain ⟨cs, rfl, hcs⟩ := okWide_struct Tryz.underlying30 hval
  rw [cel26] at hcs
  obtain ⟨fuel, hf⟩ := h
  obtain ⟨y0, y1, y2, y3, n, hx, hl, t0, t1, t2, t3⟩ := Joins.trod_struct4 Tryz.underlying30 hf
  obtain ⟨cs⟩ := cs
  obtain ⟨c0, c1, c2, c3, rfl⟩ := list4 (by simpa using hcs)
  simp only [Value.cells, cel22, cel23, cel24, List.drop, List.take] at t0 t1 t2 t3
  obtain ⟨d0, p0⟩ := y0
  obtain ⟨d1, p1⟩ := y1
  obtain ⟨d2, p2⟩ := y2
  obtain ⟨d3, p3⟩ := y3
  simp only [Prod.mk.injEq] at hx
  obtain ⟨rfl, _⟩ := hx
  obtain ⟨ta, tc, lt, rfl, i0, l0, k0, m0, h0⟩ := open_items t0
  obtain ⟨da, dc, ld, rfl, i1, l1, k1, m1, h1⟩ := open_items t1
  obtain ⟨ea, ec, le, rfl, i2, l2, k2, m2, h2⟩ := open_equs t2
  obtain ⟨ga, gc, lg, rfl, i3, l3, k3, m3, h3⟩ := open_globs t3
  have hb : Rows.uptoBulk d0 ≤ Rows.uptoBulk (DataW.agg [d0, d1, d2, d3]) ∧ Rows.uptoBulk d1 ≤ Rows.uptoBulk (DataW.agg [d0, d1, d2, d3]) ∧ Rows.uptoBulk d2 ≤ Rows.uptoBulk (DataW.agg [d0, d1, d2, d3]) ∧ Rows.uptoBulk d3 ≤ Rows.uptoBulk (DataW.agg [d0, d1, d2, d3]) := by
    simp only [Rows.uptoBulk, Rows.uptoBulkAll]
    omega
  obtain ⟨b0, b1, b2, b3⟩ := hb
  refine ⟨ta, da, ea, ga, tc, dc, ec, gc, ⟨lt, ld, le, lg⟩, ⟨rfl, ⟨i0, i1, i2, i3⟩, ⟨by show lt.length ≤ _; omega, by show ld.length ≤ _; omega, by show le.length ≤ _; omega, by show lg.length ≤ _; omega⟩, ⟨⟨k0, m0⟩, ⟨k1, m1⟩, ⟨k2, m2⟩, ⟨k3, m3⟩⟩, fun x hx => ?_, fun x hx => ?_, fun q hq => ?_, fun s hs => ?_⟩⟩
  · obtain ⟨va, vc, g⟩ := h0 x hx
    exact ⟨va, vc, g.mono b0⟩
  · obtain ⟨va, vc, g⟩ := h1 x hx
    exact ⟨va, vc, g.mono b1⟩
  · obtain ⟨va, vc, g⟩ := h2 q hq
    exact ⟨va, vc, g.mono b2⟩
  · have := h3 s hs
    omega

end Go.Proofs.YtmndccbeddaphaaGreatDoor
namespace Go.Proofs.YtmndccbeddaphaaGreatDoor
open Go.ChangeShapes Go.WideShapes Go.ChangeAt Go.RowKit
set_option linter.unusedVariables false
set_option linter.unusedSimpArgs false
set_option maxRecDepth 100000

theorem bytes5 : Tryz.prog.bytesOf 5 = 1 := by kernel_rfl
theorem lies_nil (w : World) (a : Option Addr) : O.Lies w a [] := ⟨fun z hz => (by cases hz), .inl rfl⟩
theorem lies_open {w : World} {x : Addr} {zs : List Int} {len : Nat} (hl : len ≤ zs.length) (hcell : ∀ i, i < zs.length → w.cell? (x.add i) = some (.int .u8 (zs.getD i 0)))
    (hwz : ∀ n ∈ zs, (Lit.int .u8 n).wf = true) : O.Lies w (some x) (zs.take len) := by
  refine ⟨fun z hz => ?_, ?_⟩
  · have := bounds_u8 (hwz z (List.mem_of_mem_take hz))
    omega
  · by_cases h0 : len = 0
    · subst h0
      exact .inl (by simp)
    · refine .inr ?_
      obtain ⟨b, off, spot⟩ := x
      have hspot : spot = none := by simpa [Addr.add] using World.cell?_spot (hcell 0 (by omega))
      subst hspot
      refine ⟨b, off, rfl, fun i hi => ?_⟩
      simp at hi
      have := hcell i (by omega)
      have hadd : (⟨b, off, none⟩ : Addr).add i = ⟨b, off + i, none⟩ := by unfold Addr.add; split <;> simp_all
      rw [hadd] at this
      rw [this]
      simp [List.getElem?_take_of_lt (show i < len by omega)]
theorem bulk_slice {H : Type} (elems spare : List (DataW H)) (n : Nat) (h : n ≤ elems.length) : n + 1 ≤ Rows.uptoBulk (.slice elems spare) := by
  have := bulk_all elems
  simp only [Rows.uptoBulk]
  omega
theorem slice_lt {W : World} {base : Nat} {x : Addr} {l c : Nat} (hval : Value.okWide Tryz.prog W .any base 22 (.slice (some x) l c)) : x.block < W.heap.size := by
  simp only [Value.okWide, Tryz.underlying22, Cell.okWide, Cell.ok, World.has] at hval
  obtain ⟨_, _, _, _, row, cells, hs, _⟩ := hval
  unfold World.shape? at hs
  rcases Nat.lt_or_ge x.block W.heap.size with h | h
  · exact h
  · rw [Array.getElem?_eq_none h] at hs
    cases hs
theorem open_bytes {H : Type} {enc : TypeId × Value → H} {W : World} {base : Nat} {v : Value} {d : DataW H} {p : List MemPlace}
    (hval : Value.okWide Tryz.prog W .any base 22 v) (h : DataW.Trod enc Tryz.prog W 0 (fun _ => true) true 22 v d p) :
    ∃ a zs c, v = .slice a zs.length c ∧ O.Lies W a zs ∧ zs.length ≤ c ∧ (a = none → zs.length = 0 ∧ c = 0) ∧ (∀ x, a = some x → x.block < W.heap.size) ∧ zs.length ≤ maxLen ∧ zs.length + 1 ≤ Rows.uptoBulk d := by
  obtain ⟨a0, len0, cap0, rfl⟩ := okWide_slice Tryz.underlying22 hval
  obtain ⟨fuel, hf⟩ := h
  rcases open_ints Tryz.underlying22 Tryz.underlying5 (by kernel_rfl) hf with ⟨hcs, hx⟩ | ⟨x, l, c, zs, hcs, _, hl, hm, hz, hx, hcell, hwz⟩
  · simp [Value.cells] at hcs
    obtain ⟨rfl, rfl, rfl⟩ := hcs
    exact ⟨none, [], 0, rfl, lies_nil _ _, Nat.le_refl _, fun _ => ⟨rfl, rfl⟩, fun x hx => (by cases hx), Nat.zero_le _, bulk_pos _⟩
  · simp [Value.cells] at hcs
    obtain ⟨rfl, rfl, rfl⟩ := hcs
    simp only [Prod.mk.injEq] at hx
    have hz' : zs.length = cap0 := by simpa using hz
    have e1 : (zs.take len0).length = len0 := by simp; omega
    refine ⟨some x, zs.take len0, cap0, by rw [e1], lies_open (by omega) hcell hwz, by omega, fun h => (by cases h), fun y hy => (by cases hy; exact slice_lt hval), by omega, ?_⟩
    rw [hx.1]
    exact bulk_slice _ _ _ (by simp [lits])

theorem ItC.held {W : World} {B : Nat} {cs : List Value} {x : Itm} {va : Option Addr} {vc : Nat} (h : ItC W B cs x va vc) (hB : B ≤ 1100000) : HeldI x :=
  ⟨by have := h.name; omega, h.m, h.n, by have := h.lin.few; omega, fun t ht => by have := (h.lin.each t ht).2.2; omega⟩
theorem EqC.held {W : World} {B : Nat} {cs : List Value} {q : List UInt8 × Lin} {va : Option Addr} {vc : Nat} (h : EqC W B cs q va vc) (hB : B ≤ 1100000) : HeldE q :=
  ⟨by have := h.name; omega, by have := h.lin.few; omega, fun t ht => by have := (h.lin.each t ht).2.2; omega⟩
theorem UIn.held {W : World} {v : Value} {B : Nat} {ta da ea ga : Option Addr} {tc dc ec gc : Nat} {u : UVal} (h : UIn W v B ta da ea ga tc dc ec gc u) (hB : B ≤ 1100000) : HeldU u := by
  obtain ⟨f1, f2, f3, f4⟩ := h.few
  refine ⟨⟨by omega, fun x hx => ?_⟩, ⟨by omega, fun x hx => ?_⟩, ⟨by omega, fun x hx => ?_⟩, by omega⟩
  · obtain ⟨va, vc, g⟩ := h.text x hx
    exact g.held hB
  · obtain ⟨va, vc, g⟩ := h.data x hx
    exact g.held hB
  · obtain ⟨va, vc, g⟩ := h.equs x hx
    exact g.held hB
theorem LinC.num {W : World} {B : Nat} {a : Option Addr} {c : Nat} {x : Lin} (h : LinC W B a c x) : NumL x := ⟨⟨h.lo, by have := h.hi; omega⟩, fun t ht => ⟨(h.each t ht).1, by have := (h.each t ht).2.1; omega⟩⟩
theorem UIn.num {W : World} {v : Value} {B : Nat} {ta da ea ga : Option Addr} {tc dc ec gc : Nat} {u : UVal} (h : UIn W v B ta da ea ga tc dc ec gc u) : NumU u := by
  refine ⟨fun x hx => ?_, fun x hx => ?_, fun x hx => ?_⟩
  · obtain ⟨va, vc, g⟩ := h.text x hx
    exact g.lin.num
  · obtain ⟨va, vc, g⟩ := h.data x hx
    exact g.lin.num
  · obtain ⟨va, vc, g⟩ := h.equs x hx
    exact g.lin.num
end Go.Proofs.YtmndccbeddaphaaGreatDoor
