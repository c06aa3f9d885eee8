/- The document's Cycle, walked. -/
import Derived.Test.YtebbbefknfldoaaTurnW
import Derived.Test.YtebbbefknfldoaaRight
import Derived.Deep.SlicePairs
import Derived.Lib.SmallJoins
import Derived.ChangeArms
import Derived.Test.YtebbbefknfldoaaRBk
import Derived.Test.YtebbbefknfldoaaRPt
import Derived.Test.YtebbbefknfldoaaWk5
import Derived.Deep.RegionHeld3
import Derived.Deep.DeepCutAuto
import Derived.Test.YtebbbefknfldoaaWk1
import Derived.Maps.OwnSet
import Derived.Maps.OwnOps
import Derived.BigQuiet
import Derived.Sort.Walk0
/- How equs that came in are opened. -/
namespace Go.Proofs.Ytebbbefknfldoaa
open Go.ChangeShapes Go.WideShapes Go.ChangeAt Go.RowKit
set_option linter.unusedVariables false
set_option linter.unusedSimpArgs false
set_option maxRecDepth 100000
theorem cel9 : Try.prog.cellsOf 9 = 1 := by kernel_rfl
theorem cel86 : Try.prog.cellsOf 26 = 1 := by kernel_rfl
theorem cel87 : Try.prog.cellsOf 27 = 1 := by kernel_rfl
theorem cel89 : Try.prog.cellsOf 29 = 2 := by kernel_rfl
theorem cel101 : Try.prog.cellsOf 31 = 3 := by kernel_rfl
theorem cel123 : Try.prog.cellsOf 49 = 2 := by kernel_rfl
theorem flat_at {α β : Type} (f : α → List β) (k : Nat) (hf : ∀ x, (f x).length = k) : ∀ (l : List α) (i j : Nat) (x : α), l[i]? = some x → j < k → (l.flatMap f)[i * k + j]? = (f x)[j]?
  | [], i, j, x, h, hj => by simp at h
  | y :: l, 0, j, x, h, hj => by
    simp only [List.getElem?_cons_zero, Option.some.injEq] at h
    subst h
    rw [List.flatMap_cons, Nat.zero_mul, Nat.zero_add, List.getElem?_append_left (by rw [hf]; exact hj)]
  | y :: l, i + 1, j, x, h, hj => by
    rw [List.flatMap_cons, List.getElem?_append_right (by rw [hf, Nat.succ_mul]; omega), hf, show (i + 1) * k + j - k = i * k + j by rw [Nat.succ_mul]; omega]
    exact flat_at f k hf l i j x (by simpa using h) hj
theorem list3 {α : Type} {l : List α} (h : l.length = 3) : ∃ a b c, l = [a, b, c] := by
  match l, h with
  | [a, b, c], _ => exact ⟨a, b, c, rfl⟩
theorem str_bytes (s : ByteArray) : s = str s.data.toList := by simp [str]
theorem list_each {α : Type} {n : Nat} {P : Nat → α → Prop} (h : ∀ i, i < n → ∃ x, P i x) : ∃ l : List α, l.length = n ∧ ∀ i x, l[i]? = some x → P i x := by
  induction n with
  | zero => exact ⟨[], rfl, fun i x hx => by simp at hx⟩
  | succ n ih =>
    obtain ⟨l, hl, he⟩ := ih fun i hi => h i (by omega)
    obtain ⟨x, hx⟩ := h n (by omega)
    refine ⟨l ++ [x], by simp [hl], fun i y hy => ?_⟩
    by_cases hi : i < l.length
    · rw [List.getElem?_append_left hi] at hy
      exact he i y hy
    · have hi2 := (List.getElem?_eq_some_iff.1 hy).1
      simp at hi2
      obtain rfl : i = l.length := by omega
      simp at hy
      subst hy
      rw [hl]
      exact hx
structure LinC (W : World) (B : Nat) (a : Option Addr) (c : Nat) (x : Lin) : Prop where
  lies : TmLies W a x.terms
  lo : 0 ≤ x.const
  hi : x.const < 4294967296
  few : x.terms.length ≤ B
  each : ∀ t ∈ x.terms, 0 ≤ t.coef ∧ t.coef < 4294967296 ∧ t.name.length ≤ B
  nil : a = none → c = 0
theorem open_linC {H : Type} {enc : TypeId × Value → H} {W : World} {c0 c1 : Value} {d : DataW H} {p : List MemPlace} {fuel : Nat}
    (hf : DataW.trod enc Try.prog W 0 (fun _ => true) true fuel 29 [c0, c1] = some (d, p)) :
    ∃ a c x, c0 = .slice a x.terms.length c ∧ c1 = .int .u32 x.const ∧ LinC W (Rows.uptoBulk d) a c x := by
  obtain ⟨y0, y1, n, hx, hl, t0, t1⟩ := trod_struct2 Try.underlying29 hf
  simp only [cel86, cel87, List.drop, List.take] at t0 t1
  obtain ⟨k, hk, rfl, wk⟩ := DataW.trod_int Try.underlying27 t1
  simp only [List.cons.injEq, and_true] at hk
  subst hk
  have hb := bounds_u32 wk
  simp only [Prod.mk.injEq] at hx
  obtain ⟨rfl, rfl⟩ := hx
  rcases Deep.open_slice_pairs Try.underlying26 Try.underlying49 cel123 rfl rfl cel9 cel87 t0 with ⟨hc, rfl⟩ | ⟨a, len, cap, m, n', V0, V1, D0, D1, P0, P1, hc, _, hlc, hcm, hm, rfl, hall⟩
  · simp only [List.cons.injEq, and_true] at hc
    subst hc
    exact ⟨none, 0, ⟨[], k⟩, rfl, rfl, ⟨.inl rfl, hb.1, by have := hb.2; show k < _; omega, Nat.zero_le _, (fun t ht => by (cases ht)), fun _ => rfl⟩⟩
  · simp only [List.cons.injEq, and_true] at hc
    subst hc
    simp only [if_true] at hm
    subst hm
    have hone : ∀ i, i < len → V0 i = .string (str (nameV (V0 i))) ∧ V1 i = .int .u32 (intOf (V1 i)) ∧ 0 ≤ intOf (V1 i) ∧ intOf (V1 i) < 4294967296 ∧ (nameV (V0 i)).length + 1 ≤ Rows.uptoBulk (D0 i) := fun i hi => by
      obtain ⟨_, _, h0, h1⟩ := hall i (by omega)
      obtain ⟨s, e0, e1, _⟩ := DataW.trod_string Try.underlying9 h0
      obtain ⟨z, e2, e3, wz⟩ := DataW.trod_int Try.underlying27 h1
      simp only [List.cons.injEq, and_true] at e0 e2
      simp only [Prod.mk.injEq] at e1 e3
      rw [e0, e2, e1.1]
      have := bounds_u32 wz
      refine ⟨?_, rfl, this.1, by simp only [intOf]; omega, by simp [nameV, Rows.uptoBulk]⟩
      simp [nameV, str]
    have hbulk : ∀ i, i < len → Rows.uptoBulk (D0 i) + 1 ≤ Rows.uptoBulkAll ((List.range len).map fun i => DataW.agg [D0 i, D1 i]) := fun i hi => by
      have := bulk_mem ((List.range len).map fun i => DataW.agg [D0 i, D1 i]) (.agg [D0 i, D1 i]) (List.mem_map.2 ⟨i, List.mem_range.2 hi, rfl⟩)
      simp only [Rows.uptoBulk, Rows.uptoBulkAll] at this
      omega
    have hfew := bulk_all ((List.range len).map fun i => DataW.agg [D0 i, D1 i])
    simp only [List.length_map, List.length_range] at hfew
    have hB : Rows.uptoBulkAll ((List.range len).map fun i => DataW.agg [D0 i, D1 i]) ≤ Rows.uptoBulk (DataW.agg [DataW.slice ((List.range len).map fun i => DataW.agg [D0 i, D1 i]) ((List.range (m - len)).map fun j => DataW.agg [D0 (len + j), D1 (len + j)]), DataW.lit (Lit.int IntKind.u32 k)]) := by
      simp only [Rows.uptoBulk, Rows.uptoBulkAll]
      omega
    have hat : ∀ i t, ((List.range len).map fun i => (⟨nameV (V0 i), intOf (V1 i)⟩ : Tm))[i]? = some t → i < len ∧ t = ⟨nameV (V0 i), intOf (V1 i)⟩ := fun i t ht => by
      rw [List.getElem?_map, Option.map_eq_some_iff] at ht
      obtain ⟨j, hj, rfl⟩ := ht
      obtain ⟨hj1, hj2⟩ := List.getElem?_eq_some_iff.1 hj
      simp at hj1 hj2
      subst hj2
      exact ⟨hj1, rfl⟩
    refine ⟨some a, m, ⟨(List.range len).map fun i => ⟨nameV (V0 i), intOf (V1 i)⟩, k⟩, by simp, rfl, ⟨?_, hb.1, by have := hb.2; show k < _; omega, by simp; omega, fun t ht => ?_, fun h => (by cases h)⟩⟩
    · by_cases h0 : len = 0
      · subst h0
        exact .inl rfl
      · obtain ⟨b, off, spot⟩ := a
        have hspot : spot = none := by simpa [Addr.add] using World.cell?_spot (hall 0 (by omega)).1
        subst hspot
        have hadd : ∀ j, (⟨b, off, none⟩ : Addr).add j = ⟨b, off + j, none⟩ := fun j => by unfold Addr.add; split <;> simp_all
        refine .inr ⟨b, off, rfl, ?_, fun i t ht => ?_⟩
        · have h1 := (hall 0 (by omega)).1
          apply Decidable.byContradiction
          intro hn
          unfold World.cell? at h1
          simp [Array.getElem?_eq_none (show W.heap.size ≤ b by omega), hadd] at h1
        · obtain ⟨hi, rfl⟩ := hat i t ht
          obtain ⟨k0, k1, _⟩ := hall i (by omega)
          rw [hadd] at k0 k1
          obtain ⟨e0, e1, _⟩ := hone i hi
          exact ⟨by rw [k0, ← e0], by rw [Nat.add_assoc, k1, ← e1]⟩
    · obtain ⟨i, hi⟩ := List.getElem?_of_mem ht
      obtain ⟨hi2, rfl⟩ := hat i t hi
      obtain ⟨_, _, e2, e3, e4⟩ := hone i hi2
      have := hbulk i hi2
      exact ⟨e2, e3, by simp only; omega⟩
theorem LinC.mono {W : World} {B C : Nat} {a : Option Addr} {c : Nat} {x : Lin} (h : LinC W B a c x) (hBC : B ≤ C) : LinC W C a c x :=
  ⟨h.lies, h.lo, h.hi, by have := h.few; omega, fun t ht => ⟨(h.each t ht).1, (h.each t ht).2.1, by have := (h.each t ht).2.2; omega⟩, h.nil⟩
theorem LinC.src {W : World} {B : Nat} {a : Option Addr} {c : Nat} {x : Lin} (h : LinC W B a c x) : Src W (.slice a x.terms.length c) x.terms.length (rowT x.terms) := by
  rcases h.lies with h0 | ⟨g, o, rfl, hg, h1⟩
  · rw [h0]
    cases a with
    | none => exact .inl ⟨by rw [h.nil rfl]; rfl, rfl, rfl⟩
    | some y => exact .inr ⟨y, c, rfl, fun j u hj => (by simp [rowT] at hj)⟩
  · refine .inr ⟨_, c, rfl, fun j u hj => ?_⟩
    have hl : (rowT x.terms).length = x.terms.length * 2 := by
      unfold rowT
      generalize x.terms = l
      induction l with
      | nil => rfl
      | cons t l ih => rw [List.flatMap_cons, List.length_append, ih, List.length_cons]; show 2 + _ = _; omega
    have hj2 : j < x.terms.length * 2 := by
      have := (List.getElem?_eq_some_iff.1 hj).1
      omega
    have hq : j / 2 < x.terms.length := by omega
    have ht := List.getElem?_eq_getElem hq
    have hat := h1 (j / 2) _ ht
    have hfl := flat_at Tm.cells 2 (fun _ => rfl) x.terms (j / 2)
    unfold rowT at hj
    have hadd : (⟨g, o, none⟩ : Addr).add j = ⟨g, o + j, none⟩ := by
      unfold Addr.add
      split <;> simp_all
    rw [hadd]
    rcases Nat.mod_two_eq_zero_or_one j with hm | hm
    · have hf := hfl 0 _ ht (by omega)
      rw [show j / 2 * 2 + 0 = j by omega, hj] at hf
      have h3 := hat.name
      rw [show o + j / 2 * 2 = o + j by omega] at h3
      rw [h3]
      exact hf.symm
    · have hf := hfl 1 _ ht (by omega)
      rw [show j / 2 * 2 + 1 = j by omega, hj] at hf
      have h3 := hat.coef
      rw [show o + j / 2 * 2 + 1 = o + j by omega] at h3
      rw [h3]
      exact hf.symm
theorem add_none (b off j : Nat) : (⟨b, off, none⟩ : Addr).add j = ⟨b, off + j, none⟩ := by
  unfold Addr.add
  split <;> simp_all
theorem cells_at {W : World} {b off k : Nat} {cs : List Value} (h : W.cells? 0 ⟨b, off, none⟩ k = some cs) : ∀ j, j < k → W.cell? ⟨b, off + j, none⟩ = cs[j]? := fun j hj => by
  rw [← (World.cells?_some h).2.2 j hj, add_none]
theorem plain_addr {W : World} {a : Addr} {k : Nat} {cs : List Value} (hk : 0 < k) (h : W.cells? 0 a k = some cs) : ∃ g o, a = ⟨g, o, none⟩ ∧ g < W.heap.size := by
  obtain ⟨h1, h2, h3⟩ := World.cells?_some h
  have h0 := h3 0 hk
  rw [List.getElem?_eq_getElem (by omega)] at h0
  have hs := World.cell?_spot h0
  obtain ⟨b, off, spot⟩ := a
  have hspot : spot = none := by simpa [Addr.add] using hs
  subst hspot
  exact ⟨b, off, rfl, World.cells?_block h hk⟩
structure EqC (W : World) (B : Nat) (cs : List Value) (q : List UInt8 × Lin) (va : Option Addr) (vc : Nat) : Prop where
  is : cs = [.string (str q.1), .slice va q.2.terms.length vc, .int .u32 q.2.const]
  name : q.1.length ≤ B
  lin : LinC W B va vc q.2
theorem open_eqC {H : Type} {enc : TypeId × Value → H} {W : World} {cs : List Value} {d : DataW H} {p : List MemPlace} {fuel : Nat}
    (hf : DataW.trod enc Try.prog W 0 (fun _ => true) true fuel 31 cs = some (d, p)) :
    ∃ q va vc, EqC W (Rows.uptoBulk d) cs q va vc := by
  obtain ⟨y0, y1, n, hx, hl, t0, t1⟩ := trod_struct2 Try.underlying31 hf
  rw [cel101] at hl
  obtain ⟨c0, c1, c2, rfl⟩ := list3 hl
  simp only [cel9, cel89, List.drop, List.take] at t0 t1
  obtain ⟨s, e1, f1, _⟩ := DataW.trod_string Try.underlying9 t0
  simp only [List.cons.injEq, and_true] at e1
  subst e1
  obtain ⟨d1, p1⟩ := y1
  obtain ⟨va, vc, L, rfl, rfl, hL⟩ := open_linC t1
  simp only [Prod.mk.injEq] at hx
  obtain ⟨rfl, _⟩ := hx
  have hB3 : Rows.uptoBulk d1 ≤ Rows.uptoBulk (DataW.agg [y0.1, d1]) := by
    simp only [Rows.uptoBulk, Rows.uptoBulkAll]
    omega
  have hB1 : s.data.toList.length ≤ Rows.uptoBulk (DataW.agg [y0.1, d1]) := by
    rw [f1]
    simp only [Rows.uptoBulk, Rows.uptoBulkAll]
    omega
  exact ⟨(s.data.toList, L), va, vc, ⟨by simp [← str_bytes], hB1, hL.mono hB3⟩⟩
def EqSr (w : World) (a : Option Addr) (l : List (List UInt8 × Lin)) : Prop := l = [] ∨ ∃ g o, a = some ⟨g, o, none⟩ ∧ g < w.heap.size ∧ ∀ (i : Nat) (q : List UInt8 × Lin), l[i]? = some q → ∃ va vc, w.cell? ⟨g, o + i * 3, none⟩ = some (.string (str q.1)) ∧ w.cell? ⟨g, o + i * 3 + 1, none⟩ = some (.slice va q.2.terms.length vc) ∧ w.cell? ⟨g, o + i * 3 + 2, none⟩ = some (.int .u32 q.2.const) ∧ Src w (.slice va q.2.terms.length vc) q.2.terms.length (rowT q.2.terms)
theorem nms_bulk {H : Type} : ∀ (l : List Eqv) (ds : List (DataW H)), l.length = ds.length → (∀ (i : Nat) (q : Eqv), l[i]? = some q → ∃ d, ds[i]? = some d ∧ q.2.terms.length ≤ Rows.uptoBulk d) → (nmsOf l).length ≤ Rows.uptoBulkAll ds
  | [], ds, _, _ => Nat.zero_le _
  | q :: l, [], h, _ => by cases h
  | q :: l, d :: ds, h, h2 => by
    have h3 := nms_bulk l ds (by simpa using h) (fun i q' hq => h2 (i + 1) q' (by simpa using hq))
    obtain ⟨d', e, h4⟩ := h2 0 q rfl
    cases e
    show ((q.2.terms.map (·.name)) ++ nmsOf l).length ≤ _
    simp only [List.length_append, List.length_map, Rows.uptoBulkAll]
    omega
theorem open_equs {H : Type} {enc : TypeId × Value → H} {W : World} {c : Value} {d : DataW H} {p : List MemPlace} {fuel : Nat}
    (hf : DataW.trod enc Try.prog W 0 (fun _ => true) true fuel 22 [c] = some (d, p)) :
    ∃ a vc l, c = .slice a l.length vc ∧ EqIn W a l ∧ l.length ≤ Rows.uptoBulk d ∧ l.length ≤ vc ∧ vc ≤ maxLen ∧ (∀ q ∈ l, ∃ va vc, EqC W (Rows.uptoBulk d) [.string (str q.1), .slice va q.2.terms.length vc, .int .u32 q.2.const] q va vc) ∧ EqSr W a l ∧ (nmsOf l).length ≤ Rows.uptoBulk d := by
  rcases Deep.open_slice Try.underlying22 hf with ⟨hc, hx⟩ | ⟨a, len, cap, m, n, D, Pl, hc, _, hlc, hcm, hm, hx, hall⟩
  · simp only [List.cons.injEq, and_true] at hc
    subst hc
    exact ⟨none, 0, [], rfl, .inl rfl, Nat.zero_le _, Nat.le_refl _, Nat.zero_le _, (fun x hx => by cases hx), .inl rfl, Nat.zero_le _⟩
  · simp only [List.cons.injEq, and_true] at hc
    subst hc
    simp only [if_true] at hm
    subst hm
    simp only [Prod.mk.injEq] at hx
    obtain ⟨rfl, _⟩ := hx
    simp only [cel101] at hall
    have hfew := bulk_all ((List.range len).map D)
    simp only [List.length_map, List.length_range] at hfew
    have hB : Rows.uptoBulkAll ((List.range len).map D) ≤ Rows.uptoBulk (DataW.slice ((List.range len).map D) ((List.range (m - len)).map fun j => D (len + j))) := by
      simp only [Rows.uptoBulk]
      omega
    have heach : ∀ i, i < len → ∃ q : List UInt8 × Lin, ∃ cs va vc, W.cells? 0 (a.add (i * 3)) 3 = some cs ∧ EqC W (Rows.uptoBulk (DataW.slice ((List.range len).map D) ((List.range (m - len)).map fun j => D (len + j)))) cs q va vc ∧ q.2.terms.length ≤ Rows.uptoBulk (D i) := fun i hi => by
      obtain ⟨cs, h1, h2⟩ := hall i (by omega)
      obtain ⟨x, va, vc, hx⟩ := open_eqC h2
      have hb := bulk_mem ((List.range len).map D) (D i) (List.mem_map.2 ⟨i, List.mem_range.2 hi, rfl⟩)
      exact ⟨x, cs, va, vc, h1, ⟨hx.is, by have := hx.name; omega, hx.lin.mono (by omega)⟩, hx.lin.few⟩
    obtain ⟨l, hl, hP⟩ := list_each heach
    have hnm : (nmsOf l).length ≤ Rows.uptoBulkAll ((List.range len).map D) := nms_bulk l _ (by simp [hl]) (fun i q hq => by
      obtain ⟨cs, va, vc, _, _, h3⟩ := hP i q hq
      have hi : i < len := by rw [← hl]; exact (List.getElem?_eq_some_iff.1 hq).1
      exact ⟨D i, by rw [List.getElem?_map, List.getElem?_range hi]; rfl, h3⟩)
    refine ⟨some a, m, l, by rw [hl], ?_, by omega, by omega, hcm, fun x hx => ?_, ?_, by omega⟩
    · by_cases h0 : l = []
      · exact .inl h0
      · have hpos : 0 < l.length := List.length_pos_iff.2 h0
        obtain ⟨_, cs0, va0, vc0, hc0, _, _⟩ := heach 0 (by omega)
        rw [Nat.zero_mul, show a.add 0 = a from by simp [Addr.add]] at hc0
        obtain ⟨g, o, rfl, hg⟩ := plain_addr (by omega) hc0
        refine .inr ⟨g, o, rfl, hg, fun i x hx => ?_⟩
        obtain ⟨cs, va, vc, h1, h2, _⟩ := hP i x hx
        rw [add_none] at h1
        have hcl := cells_at h1
        rw [h2.is] at hcl
        exact ⟨va, vc, hcl 0 (by omega), hcl 1 (by omega), hcl 2 (by omega), h2.lin.lies⟩
    · obtain ⟨i, hi⟩ := List.getElem?_of_mem hx
      obtain ⟨cs, va, vc, h1, h2, _⟩ := hP i x hi
      exact ⟨va, vc, rfl, h2.name, h2.lin⟩
    · by_cases h0 : l = []
      · exact .inl h0
      · have hpos : 0 < l.length := List.length_pos_iff.2 h0
        obtain ⟨_, cs0, va0, vc0, hc0, _, _⟩ := heach 0 (by omega)
        rw [Nat.zero_mul, show a.add 0 = a from by simp [Addr.add]] at hc0
        obtain ⟨g, o, rfl, hg⟩ := plain_addr (by omega) hc0
        refine .inr ⟨g, o, rfl, hg, fun i x hx => ?_⟩
        obtain ⟨cs, va, vc, h1, h2, _⟩ := hP i x hx
        rw [add_none] at h1
        have hcl := cells_at h1
        rw [h2.is] at hcl
        exact ⟨va, vc, hcl 0 (by omega), hcl 1 (by omega), hcl 2 (by omega), h2.lin.src⟩
end Go.Proofs.Ytebbbefknfldoaa
/- The document's Solve, walked. -/
namespace Go.Proofs.Ytebbbefknfldoaa
open Go.ChangeShapes Go.WideShapes Go.ChangeAt Go.RowKit
set_option linter.unusedVariables false
set_option linter.unusedSimpArgs false
set_option maxRecDepth 100000
theorem own_setR {w : World} {lo : Nat} {T : TypeId} {sz g n c : Nat} {xs : List Value} (h : w.ownsRow lo T sz (.slice (some ⟨g, 0, none⟩) n c) n xs) (j : Nat) (u : Value) (hu : u.oneCell' = true) :
    (w.setCell ⟨g, j, none⟩ u).ownsRow lo T sz (.slice (some ⟨g, 0, none⟩) n c) n (xs.set j u) ∧ w.grownBy (w.setCell ⟨g, j, none⟩ u) (some g) := by
  obtain ⟨hl, h2⟩ := h
  rcases h2 with ⟨hv, _⟩ | ⟨g', cap, cur, hv, k1, k2, k3, k4, k5, k6⟩
  · cases hv
  · injection hv with e1 e2 e3
    cases e1
    subst e3
    obtain ⟨a, b⟩ := row_set k2 j u
    refine ⟨⟨by simpa using hl, .inr ⟨g, c, _, rfl, k1, a, k3, k4, by simpa using k5, ?_⟩⟩, b⟩
    rw [← k6]
    simp [List.take_set]
theorem rowQ_set : ∀ (qs : List (Eqv × Option Addr × Nat)) (i : Nat) (q : Eqv × Option Addr × Nat) (e : Lin) (a : Option Addr) (c : Nat), qs[i]? = some q → rowQ (qs.set i ((q.1.1, e), a, c)) = ((rowQ qs).set (i * 3 + 1) (.slice a e.terms.length c)).set (i * 3 + 2) (.int .u32 e.const)
  | [], i, q, e, a, c, h => by cases h
  | x :: l, 0, q, e, a, c, h => by
    have : x = q := by simpa using h
    subst this
    rfl
  | x :: l, i + 1, q, e, a, c, h => by
    have ih := rowQ_set l i q e a c (by simpa using h)
    have e0 : ∀ (y : Eqv × Option Addr × Nat) m, rowQ (y :: m) = .string (str y.1.1) :: .slice y.2.1 y.1.2.terms.length y.2.2 :: .int .u32 y.1.2.const :: rowQ m := fun _ _ => rfl
    rw [List.set_cons_succ, e0, e0, ih, show (i + 1) * 3 + 1 = i * 3 + 1 + 1 + 1 + 1 by omega, show (i + 1) * 3 + 2 = i * 3 + 2 + 1 + 1 + 1 by omega]
    simp only [List.set_cons_succ]
def TmNot (g : Nat) (b : Option Addr) (ts : List Tm) : Prop := ts = [] ∨ ∃ g' o, b = some ⟨g', o, none⟩ ∧ g' ≠ g
theorem tm_off {w w' : World} {b : Option Addr} {ts : List Tm} {g : Nat} (h : TmLies w b ts) (hn : TmNot g b ts) (hg : w.grownBy w' (some g)) : TmLies w' b ts := by
  rcases hn with hn | ⟨g', o', hb, hne⟩
  · exact .inl hn
  · rcases h with h | ⟨g2, o, ha, hlt, h⟩
    · exact .inl h
    · rw [ha] at hb
      injection hb with hb
      injection hb with hb1 hb2
      refine .inr ⟨g2, o, ha, Nat.lt_of_lt_of_le hlt hg.size, fun i t hi => ?_⟩
      have hblk := hg.block g2 hlt (fun e => hne (by injection e with e; rw [← hb1, e]))
      obtain ⟨k1, k2⟩ := h i t hi
      refine ⟨?_, ?_⟩
      · unfold World.cell? at k1 ⊢
        rw [hblk]; exact k1
      · unfold World.cell? at k2 ⊢
        rw [hblk]; exact k2
structure RS (w wr : World) (m : List Eqv) (a : Option Addr) (c : Nat) : Prop where
  bel : Below w.heap.size w wr
  row : ∃ qs, qs.map (·.1) = m ∧ wr.ownsRow w.heap.size 31 3 (.slice a m.length c) m.length (rowQ qs) ∧ ∀ q ∈ qs, TmLies wr q.2.1 q.1.2.terms ∧ ∀ g, a = some ⟨g, 0, none⟩ → TmNot g q.2.1 q.1.2.terms
theorem RS.step {w wr w1 : World} {m : List Eqv} {a : Option Addr} {c : Nat} (h : RS w wr m a c) {i : Nat} {q : Eqv} (hq : m[i]? = some q) (hb : Below wr.heap.size wr w1) (e : Lin) (va : Option Addr) (n vc : Nat) (hn : n = e.terms.length) (ho : w1.ownsRow wr.heap.size 49 2 (.slice va n vc) n (rowT e.terms)) (g : Nat) (ha : a = some ⟨g, 0, none⟩) :
    RS w ((w1.setCell ⟨g, i * 3 + 1, none⟩ (.slice va n vc)).setCell ⟨g, i * 3 + 2, none⟩ (.int .u32 e.const)) (m.set i (q.1, e)) a c := by
  subst hn ha
  obtain ⟨qs, h1, h2, h3⟩ := h.row
  have hq' := hq
  rw [← h1, List.getElem?_map] at hq'
  cases hqi : qs[i]? with
  | none => rw [hqi] at hq'; cases hq'
  | some p =>
    rw [hqi] at hq'
    have hp : p.1 = q := by simpa using hq'
    have hlt := h2.lt g rfl
    obtain ⟨s1, g1⟩ := own_setR (own_keptR h2 hb) (i * 3 + 1) (.slice va e.terms.length vc) rfl
    obtain ⟨s2, g2⟩ := own_setR s1 (i * 3 + 2) (.int .u32 e.const) rfl
    have hg := grown_trans g1 g2
    have hno : TmNot g va e.terms := by
      by_cases h0 : e.terms.length = 0
      · exact .inl (List.eq_nil_of_length_eq_zero h0)
      · obtain ⟨g', rfl, _, _⟩ := own_addr ho (by omega)
        have := ho.lt g' rfl
        exact .inr ⟨g', 0, rfl, by omega⟩
    refine ⟨(h.bel.trans (hb.mono h.bel.size)).grown hg (Nat.le_trans h.bel.size hb.size) (fun g' e' => by cases e'; exact hlt.1), qs.set i ((q.1, e), va, vc), ?_, ?_, fun x hx => ?_⟩
    · rw [List.map_set, h1]
    · rw [List.length_set, ← hp, rowQ_set qs i p e va vc hqi]
      exact s2
    · rcases List.mem_or_eq_of_mem_set hx with hx | rfl
      · obtain ⟨k1, k2⟩ := h3 x hx
        exact ⟨tm_off (k1.below hb (Nat.le_refl _)) (k2 g rfl) hg, k2⟩
      · exact ⟨tm_off (own_tmLies ho) hno hg, fun g' e' => by cases e'; exact hno⟩
theorem RS.at_ {w wr : World} {m : List Eqv} {a : Option Addr} {c : Nat} (h : RS w wr m a c) {i : Nat} {q : Eqv} (hq : m[i]? = some q) :
    ∃ g, a = some ⟨g, 0, none⟩ ∧ m.length ≤ c ∧ ∃ va vc, TmLies wr va q.2.terms ∧ ∀ w1, Below wr.heap.size wr w1 → w1.cell? ⟨g, i * 3 + 1, none⟩ = some (.slice va q.2.terms.length vc) ∧ w1.cell? ⟨g, i * 3 + 2, none⟩ = some (.int .u32 q.2.const) ∧ ∀ j, w1.frozen? ⟨g, j, none⟩ = false := by
  obtain ⟨qs, h1, h2, h3⟩ := h.row
  have hi := (List.getElem?_eq_some_iff.1 hq).1
  have hq' := hq
  rw [← h1, List.getElem?_map] at hq'
  cases hqi : qs[i]? with
  | none => rw [hqi] at hq'; cases hq'
  | some p =>
    rw [hqi] at hq'
    have hp : p.1 = q := by simpa using hq'
    obtain ⟨g, rfl, hcl, _⟩ := own_addr h2 (by omega)
    obtain ⟨r1, r2, r3⟩ := rowQ_get qs i p hqi
    refine ⟨g, rfl, hcl, p.2.1, p.2.2, by rw [← hp]; exact (h3 p (List.mem_of_getElem? hqi)).1, fun w1 hb => ?_⟩
    have h4 := own_keptR h2 hb
    obtain ⟨g', e', _, hc⟩ := own_addr h4 (by omega)
    cases e'
    obtain ⟨cur, hcur⟩ := own_type h4 (g := g) rfl
    rw [← hp]
    exact ⟨hc _ _ r2, hc _ _ r3, fun j => frozen_of_row w1 g j _ 31 hcur⟩
end Go.Proofs.Ytebbbefknfldoaa
/- expr.Value. -/
namespace Go.Proofs.Ytebbbefknfldoaa
open Go.ChangeShapes Go.WideShapes Go.ChangeAt Go.RowKit Go.WideMaps Go.Maps
set_option linter.unusedVariables false
set_option maxRecDepth 100000
theorem zero23 (w : World) : (zeroValue 27).run Try.prog w = .ok (.int .u32 0) w := by kernel_rfl
def MapIs (w : World) (b n : Nat) (F : List UInt8 → Option Int) : Prop :=
  ∃ D : DataW Unit, w.ownsMap Try.prog 9 (plainElem Try.prog 27) b n D ∧ IsMap D ∧ ∀ s, has D (.string s) = (F s).isSome ∧ D.atKey (.string s) (.lit (.int .u32 0)) = .lit (.int .u32 ((F s).getD 0))
theorem MapIs.lt {w : World} {b n : Nat} {F : List UInt8 → Option Int} (h : MapIs w b n F) : b < w.heap.size := by
  obtain ⟨D, ⟨es, cl, hb, _⟩, _⟩ := h
  exact (Array.getElem?_eq_some_iff.1 hb).1
theorem MapIs.below {w w' : World} {b n : Nat} {F : List UInt8 → Option Int} {B : Nat} (h : MapIs w b n F) (hb : Below B w w') (hB : b < B) : MapIs w' b n F := by
  obtain ⟨D, ⟨es, cl, h1, h2⟩, h3⟩ := h
  exact ⟨D, ⟨es, cl, by rw [hb.block b hB]; exact h1, h2⟩, h3⟩
def valueF (F : List UInt8 → Option Int) : Int → List Tm → Option Int
  | n, [] => some n
  | n, t :: r => match F t.name with
    | none => none
    | some v => valueF F ((n + t.coef * v % 4294967296) % 4294967296) r
theorem valueF_none {F : List UInt8 → Option Int} {n : Int} {t : Tm} {r : List Tm} (h : F t.name = none) : valueF F n (t :: r) = none := by rw [valueF, h]
theorem valueF_some {F : List UInt8 → Option Int} {n v : Int} {t : Tm} {r : List Tm} (h : F t.name = some v) : valueF F n (t :: r) = valueF F ((n + t.coef * v % 4294967296) % 4294967296) r := by rw [valueF, h]
theorem dropT_at {α : Type} (ts : List α) (i : Nat) (t : α) (h : ts[i]? = some t) : ts.drop i = t :: ts.drop (i + 1) := by
  obtain ⟨hi, he⟩ := List.getElem?_eq_some_iff.1 h
  rw [List.drop_eq_getElem_cons hi, he]
def ValOut (R : Option Int) (e : Ending) : Prop := e = .returned (.tuple #[.int .u32 (R.getD 0), .bool R.isSome])
set_option maxHeartbeats 2000000 in
theorem value_any (a : Option Addr) (c : Nat) (ts : List Tm) (k : Int) (b m : Nat) (F : List UInt8 → Option Int) (w : World) (hT : TmLies w a ts) (hm : ts.length ≤ 9000000) (hN : ∀ t ∈ ts, t.name.length ≤ 1100000) (hM : MapIs w b m F) :
    Calls Try.prog 21 #[linV (.slice a ts.length c) k, .map (some b)] w fun e w' => Below w.heap.size w w' ∧ ValOut (valueF F k ts) e := by
  obtain ⟨n0, hn0⟩ : ∃ n0, n0 = ts.length := ⟨_, rfl⟩
  obtain ⟨R, hR⟩ : ∃ R, R = valueF F k ts := ⟨_, rfl⟩
  rw [← hn0, ← hR]
  rw [← hn0] at hm
  have hnH := Hid.intro hn0
  have hTH := Hid.intro hT
  have hNH := Hid.intro hN
  have hMH := Hid.intro hM
  have hstart : Hid (R = valueF F k (ts.drop 0)) := hR
  clear hn0 hR hT hN hM
  go_enter Try.func21, Try.ntmps21
  go_wp2
  have hb0 := below_alloc w (.cells #[.slice a n0 c, .int .u32 k] 29)
  generalize w.alloc (.cells #[.slice a n0 c, .int .u32 k] 29) = w0 at *
  go_loopw [6, 16] (fun v6 vi wr => ∃ (i : Nat) (n : Int), i ≤ n0 ∧ v6 = .int .u32 n ∧ vi = .int .i64 (i : Int) ∧ Hid (R = valueF F n (ts.drop i)) ∧ Below w.heap.size w wr) (fun _ vi _ => n0 - (intOf vi).toNat)
  case atStart => exact ⟨0, k, Nat.zero_le _, rfl, rfl, hstart, hb0⟩
  case round =>
    obtain ⟨i, n, hi, rfl, rfl, hI, hbr⟩ := hrel
    have hszr := hbr.size
    by_cases hlt : i < n0
    · obtain ⟨t, ht⟩ : ∃ t, ts[i]? = some t := ⟨ts[i]'(by rw [← hnH.out]; exact hlt), List.getElem?_eq_getElem _⟩
      have hmem : t ∈ ts := List.mem_of_getElem? ht
      have hsz : (str t.name).size ≤ maxLen := by
        have h1 := hNH.out t hmem
        have h2 : (str t.name).size = t.name.length := by simp [str, ByteArray.size]
        unfold maxLen
        omega
      have hkey : Hid (keyOf Try.prog 9 (.string (str t.name)) = some (.string t.name)) := by
        have := keyOf_string_mk Try.underlying9 hsz
        exact this
      have hdr := dropT_at ts i t ht
      rcases hTH.out with hx | ⟨g, o, rfl, hg, hc⟩
      · rw [hx] at ht; simp at ht
      obtain ⟨q0, q1⟩ := (hc i t ht).below hbr hg
      obtain ⟨D, hown, hD1, hD2⟩ := (hMH.out.below hbr hMH.out.lt)
      have hownH : Hid (∀ o, (wr.alloc o).ownsMap Try.prog 9 (plainElem Try.prog 27) b m D) := fun o => by
        obtain ⟨es, cl, h1, h2⟩ := hown
        exact ⟨es, cl, by rw [Below.heap_alloc wr o b (Array.getElem?_eq_some_iff.1 h1).1]; exact h1, h2⟩
      have hD := Hid.intro (hD2 t.name)
      clear hown hD1 hD2 hc hmem
      cases hF : F t.name with
      | none =>
        have hfin : Hid (R = none) := by show R = _; rw [hI.out, hdr, valueF_none hF]
        have hhas : has D (.string t.name) = false := by rw [hD.out.1, hF]; rfl
        clear hF hdr ht
        go_wp2_with (at_lookup; refine wpList_lookup_own_ok_int _ rfl _ _ 46 rfl 9 27 .u32 lawS Try.underlying46 Try.underlying27 (zero23 _) b m D rfl (hownH.out _) _ _ rfl hkey.out ?_; rw [hhas]; intro cv hat hwc; clear hat hwc)
        all_goals first | omega | skip
        go_ret2
        exact ⟨hbr.alloc hszr _, by rw [hfin.out]; rfl⟩
      | some v =>
        have hnext : Hid (R = valueF F ((n + t.coef * v % 4294967296) % 4294967296) (ts.drop (i + 1))) := by show R = _; rw [hI.out, hdr, valueF_some hF]
        have hhas : has D (.string t.name) = true := by rw [hD.out.1, hF]; rfl
        have hat0 := hD.out.2
        rw [hF] at hat0
        clear hF hdr ht
        go_wp2_with (at_lookup; refine wpList_lookup_own_ok_int _ rfl _ _ 46 rfl 9 27 .u32 lawS Try.underlying46 Try.underlying27 (zero23 _) b m D rfl (hownH.out _) _ _ rfl hkey.out ?_; rw [hhas]; intro cv hat hwc; obtain rfl : cv = v := (by rw [hat0] at hat; injection hat with hat; injection hat with _ hat; exact hat.symm); clear hat hwc hat0)
        all_goals first | omega | skip
        go_roundw
        case rel => exact ⟨i + 1, _, by omega, rfl, by go_num, hnext, hbr.alloc hszr _⟩
        case measure => simp [intOf]; omega
    · have hfin : Hid (R = some n) := by
        show R = _
        rw [hI.out, show i = ts.length by rw [← hnH.out]; omega, List.drop_length]
        rfl
      go_wp2
      all_goals first | omega | skip
      go_ret2
      exact ⟨hbr, by rw [hfin.out]; rfl⟩
end Go.Proofs.Ytebbbefknfldoaa
/- Maps of names to numbers and to yes and no, and numbers that came in, for EquValues. -/
namespace Go.Proofs.Ytebbbefknfldoaa
open Go.ChangeShapes Go.WideShapes Go.ChangeAt Go.RowKit Go.WideMaps Go.Maps
set_option linter.unusedVariables false
set_option linter.unusedSimpArgs false
set_option maxRecDepth 100000
theorem valueF_sum (F : List UInt8 → Option Int) (G : List UInt8 → Int) (ts : List Tm) (h : ∀ t ∈ ts, F t.name = some (G t.name)) (k : Int) (hk : 0 ≤ k ∧ k < 4294967296) :
    valueF F k ts = some ((k + sumV G ts) % 4294967296) := by
  induction ts generalizing k with
  | nil =>
    simp only [valueF, sumV]
    congr 1
    omega
  | cons t r ih =>
    rw [valueF_some (h t (by simp)), ih (fun x hx => h x (by simp [hx])) _ (by omega)]
    congr 1
    simp only [sumV]
    omega
def putF (F : List UInt8 → Option Int) (s : List UInt8) (v : Int) : List UInt8 → Option Int := fun x => if x = s then some v else F x
def SpecM (D : DataW Unit) (F : List UInt8 → Option Int) : Prop := IsMap D ∧ ∀ s, has D (.string s) = (F s).isSome ∧ D.atKey (.string s) (.lit (.int .u32 0)) = .lit (.int .u32 ((F s).getD 0))
theorem spec_put {D : DataW Unit} {F : List UInt8 → Option Int} (h : SpecM D F) (s : List UInt8) (v : Int) : SpecM (D.put (.string s) (.lit (.int .u32 v))) (putF F s v) := by
  refine ⟨h.1.put _ _, fun x => ?_⟩
  unfold putF
  by_cases hx : x = s
  · subst hx
    rw [if_pos rfl]
    exact ⟨by rw [has_put_same h.1 (show WideAt.IsKeyLit (.string x) from trivial)]; rfl, by rw [atKey_put_same h.1 (show WideAt.IsKeyLit (.string x) from trivial)]; rfl⟩
  · have n1 : (Lit.string x) ≠ .string s := fun e => hx (by injection e)
    rw [has_put_other n1, atKey_put_other n1, if_neg hx]
    exact h.2 x
theorem spec_empty : SpecM (.map []) (fun _ => none) := ⟨isMap_empty, fun s => ⟨rfl, rfl⟩⟩
def IntLies (w : World) (a : Option Addr) (vs : List Int) : Prop := vs = [] ∨ ∃ g o, a = some ⟨g, o, none⟩ ∧ g < w.heap.size ∧ ∀ (i : Nat) (v : Int), vs[i]? = some v → w.cell? ⟨g, o + i, none⟩ = some (.int .u32 v)
theorem IntLies.below {w w' : World} {a : Option Addr} {vs : List Int} {B : Nat} (h : IntLies w a vs) (hb : Below B w w') (hB : w.heap.size ≤ B) : IntLies w' a vs := by
  rcases h with h | ⟨g, o, ha, hg, h⟩
  · exact .inl h
  · exact .inr ⟨g, o, ha, Nat.lt_of_lt_of_le hg hb.size, fun i v hi => (hb.cell (p := ⟨g, o + i, none⟩) (by show g < B; omega)).trans (h i v hi)⟩
theorem map_empty {w : World} {b n : Nat} (h : w.ownsMap Try.prog 9 (plainElem (H := Unit) Try.prog 27) b n (.map [])) : MapIs w b n (fun _ => none) := ⟨_, h, spec_empty.1, spec_empty.2⟩
theorem map_fill {w : World} {b n : Nat} {F : List UInt8 → Option Int} (h : MapIs w b n F) : ∃ D : DataW Unit, w.ownsMap Try.prog 9 (plainElem Try.prog 27) b n D ∧ SpecM D F := by
  obtain ⟨D, h1, h2, h3⟩ := h
  exact ⟨D, h1, h2, h3⟩
theorem look_run {w : World} {b n : Nat} {F : List UInt8 → Option Int} (h : MapIs w b n F) (s : List UInt8) (hs : s.length ≤ 1100000) : (Instr.lookup 46 (.map (some b)) (.string (str s)) false).run Try.prog w = .ok (.int .u32 ((F s).getD 0)) w := by
  obtain ⟨D, hown, hD1, hD2⟩ := h
  have hsz : (str s).size ≤ maxLen := by
    have h2 : (str s).size = s.length := by simp [str, ByteArray.size]
    unfold maxLen
    omega
  have hkey : keyOf Try.prog 9 (.string (str s)) = some (.string s) := keyOf_string_mk Try.underlying9 hsz
  obtain ⟨c, hrun, hat, _⟩ := hown.lookup_int (q := .u32) lawS Try.underlying46 Try.underlying27 (zero23 w) hkey
  rw [hrun]
  rw [(hD2 s).2] at hat
  injection hat with hat
  injection hat with _ hat
  rw [hat]
theorem put_run {w : World} {b n : Nat} {F : List UInt8 → Option Int} (h : MapIs w b n F) (hn : n ≤ 3000000) (s : List UInt8) (hs : s.length ≤ 1100000) (v : Int) (hv : 0 ≤ v ∧ v < 4294967296) :
    ∃ w', (Instr.mapUpdate 46 (.map (some b)) (.string (str s)) (.int .u32 v)).run Try.prog w = .ok () w' ∧ MapIs w' b (n + 1) (putF F s v) ∧ w.grownBy w' (some b) := by
  obtain ⟨D, hown, hD⟩ := map_fill h
  have hsz : (str s).size ≤ maxLen := by
    have h2 : (str s).size = s.length := by simp [str, ByteArray.size]
    unfold maxLen
    omega
  have hkey : keyOf Try.prog 9 (.string (str s)) = some (.string s) := keyOf_string_mk Try.underlying9 hsz
  have hval : plainElem (H := Unit) Try.prog 27 (.int .u32 v) = some (.lit (.int .u32 v), []) := plainElem_int Try.underlying27 (WalkArith.wf_u32 ⟨hv.1, by omega⟩)
  obtain ⟨w', hrun, r1, r2⟩ := hown.update lawS Try.underlying46 (by unfold maxLen; omega) hkey hval
  have := spec_put hD s v
  exact ⟨w', hrun, ⟨_, r1, this.1, this.2⟩, r2⟩
structure BelowV (w : World) where
  wd : World
  h : Below w.heap.size w wd
instance {w : World} : Inhabited (BelowV w) := ⟨⟨w, Below.refl _ _⟩⟩
theorem BelowV.cell {w : World} (p : BelowV w) {a : Addr} {v : Value} (ha : a.block < w.heap.size) (h : w.cell? a = some v) : p.wd.cell? a = some v := by rw [p.h.cell ha]; exact h
def blE (v : Value) : Option (DataW Unit × List MemPlace) :=
  match v with
  | .bool z => some (.lit (.bool z), [])
  | _ => none
theorem blE_mk (z : Bool) : blE (.bool z) = some (.lit (.bool z), []) := rfl
theorem blE_inv {v : Value} {z : Bool} {ps : List MemPlace} (h : blE v = some (.lit (.bool z), ps)) : v = .bool z := by
  unfold blE at h
  split at h
  · simp at h
    rw [h.1]
  · cases h
theorem zero4 (w : World) : (zeroValue 4).run Try.prog w = .ok (.bool false) w := by kernel_rfl
def BlIs (w : World) (b n : Nat) (f : List UInt8 → Bool) : Prop :=
  ∃ D : DataW Unit, w.ownsMap Try.prog 9 blE b n D ∧ IsMap D ∧ ∀ s, has D (.string s) = f s ∧ (f s = true → ∀ zd, D.atKey (.string s) zd = .lit (.bool true))
theorem BlIs.lt {w : World} {b n : Nat} {f : List UInt8 → Bool} (h : BlIs w b n f) : b < w.heap.size := by
  obtain ⟨D, h1, _⟩ := h
  exact h1.lt
theorem BlIs.kept {w w' : World} {b n : Nat} {row : Option Nat} {f : List UInt8 → Bool} (h : BlIs w b n f) (hg : w.grownBy w' row) (hne : some b ≠ row) : BlIs w' b n f := by
  obtain ⟨D, h1, h2, h3⟩ := h
  exact ⟨D, h1.kept hg hne, h2, h3⟩
theorem BlIs.below {w w' : World} {b n : Nat} {f : List UInt8 → Bool} (h : BlIs w b n f) (hb : Below w.heap.size w w') : BlIs w' b n f :=
  h.kept (row := none) ⟨hb.os, hb.tape, hb.output, hb.size, fun k hk _ => hb.block k hk⟩ (by simp)
theorem MapIs.kept {w w' : World} {b n : Nat} {row : Option Nat} {F : List UInt8 → Option Int} (h : MapIs w b n F) (hg : w.grownBy w' row) (hne : some b ≠ row) : MapIs w' b n F := by
  obtain ⟨D, h1, h2⟩ := h
  exact ⟨D, h1.kept hg hne, h2⟩
theorem bllook_run {w : World} {b n : Nat} {f : List UInt8 → Bool} (h : BlIs w b n f) (s : List UInt8) (hs : s.length ≤ 1100000) : (Instr.lookup 47 (.map (some b)) (.string (str s)) false).run Try.prog w = .ok (.bool (f s)) w := by
  obtain ⟨D, hown, hD1, hD2⟩ := h
  have hsz : (str s).size ≤ maxLen := by
    have h2 : (str s).size = s.length := by simp [str, ByteArray.size]
    unfold maxLen
    omega
  have hkey : keyOf Try.prog 9 (.string (str s)) = some (.string s) := keyOf_string_mk Try.underlying9 hsz
  obtain ⟨v, ps, hrun, hv⟩ := hown.lookup lawS Try.underlying47 (zero4 w) (blE_mk false) hkey
  rw [hrun]
  cases hf : f s with
  | true =>
    rw [(hD2 s).2 hf] at hv
    rw [blE_inv hv]
  | false =>
    have hno : has D (.string s) = false := by rw [(hD2 s).1, hf]
    rw [atKey_of_not_has hno] at hv
    rw [blE_inv hv]
theorem blput_run {w : World} {b n : Nat} {f : List UInt8 → Bool} (h : BlIs w b n f) (hn : n ≤ 3000000) (s : List UInt8) (hs : s.length ≤ 1100000) :
    ∃ w', (Instr.mapUpdate 47 (.map (some b)) (.string (str s)) (.bool true)).run Try.prog w = .ok () w' ∧ BlIs w' b (n + 1) (fun x => decide (x = s) || f x) ∧ w.grownBy w' (some b) := by
  obtain ⟨D, hown, hD1, hD2⟩ := h
  have hsz : (str s).size ≤ maxLen := by
    have h2 : (str s).size = s.length := by simp [str, ByteArray.size]
    unfold maxLen
    omega
  have hkey : keyOf Try.prog 9 (.string (str s)) = some (.string s) := keyOf_string_mk Try.underlying9 hsz
  obtain ⟨w', hrun, r1, r2⟩ := hown.update lawS Try.underlying47 (by unfold maxLen; omega) hkey (blE_mk true)
  refine ⟨w', hrun, ⟨_, r1, hD1.put _ _, fun x => ?_⟩, r2⟩
  by_cases hx : x = s
  · subst hx
    refine ⟨by rw [has_put_same hD1 (show WideAt.IsKeyLit (.string x) from trivial)]; simp, fun _ zd => ?_⟩
    exact atKey_put_same hD1 (show WideAt.IsKeyLit (.string x) from trivial) _ _
  · have n1 : (Lit.string x) ≠ .string s := fun e => hx (by injection e)
    refine ⟨by rw [has_put_other n1, (hD2 x).1]; simp [hx], fun hy zd => ?_⟩
    rw [atKey_put_other n1]
    exact (hD2 x).2 (by simpa [hx] using hy) zd
theorem bl_empty {w : World} {b n : Nat} (h : w.ownsMap Try.prog 9 blE b n (.map [])) : BlIs w b n (fun _ => false) := ⟨_, h, isMap_empty, fun s => ⟨rfl, fun e => by cases e⟩⟩
end Go.Proofs.Ytebbbefknfldoaa
/- EquValues: what its maps hold, as facts. -/
namespace Go.Proofs.Ytebbbefknfldoaa
open Go.ChangeShapes Go.WideShapes Go.ChangeAt Go.RowKit Go.WideMaps Go.Maps
set_option linter.unusedVariables false
set_option linter.unusedSimpArgs false
set_option maxRecDepth 100000
theorem leg_eq (s : List UInt8) : legB (str (61 :: s)) = false := by
  unfold legB nameOK
  rw [show isLet (atI (bs (str (61 :: s))) 0) = false from rfl]
  simp
def vvF (l : List Eqv) (G : List UInt8 → Int) (j : Nat) : Int := ev G ((solF l (nmOf l j)).getD ⟨[], 0⟩)
theorem vvF_lt (l : List Eqv) (G : List UInt8 → Int) (j : Nat) : 0 ≤ vvF l G j ∧ vvF l G j < 4294967296 := by unfold vvF ev; omega
theorem nms_take {l : List Eqv} {i : Nat} {q : Eqv} (h : l[i]? = some q) : nmsOf (l.take (i + 1)) = nmsOf (l.take i) ++ q.2.terms.map (·.name) := by
  unfold nmsOf
  rw [List.take_add_one, h, List.flatMap_append]
  simp
theorem nms_take_le (l : List Eqv) (i : Nat) : (nmsOf (l.take i)).length ≤ (nmsOf l).length := by
  have h : nmsOf l = nmsOf (l.take i) ++ nmsOf (l.drop i) := by
    unfold nmsOf
    rw [← List.flatMap_append, List.take_append_drop]
  rw [h, List.length_append]
  omega
structure V1 (w5 wr : World) (l : List Eqv) (b1 b2 c i : Nat) (S : List (List UInt8)) : Prop where
  bel : Below w5.heap.size w5 wr
  at_ : ∃ F, MapIs wr b1 c F ∧ (∀ s ∈ S, (F s).isSome = true) ∧ ∀ s v, F s = some v → 0 ≤ v ∧ v < 4294967296
  own : ∃ f, BlIs wr b2 i f ∧ ∀ s, f s = true ↔ ∃ j, j < i ∧ j < l.length ∧ nmOf l j = s
theorem V1.below {w5 wr w' : World} {l : List Eqv} {b1 b2 c i : Nat} {S : List (List UInt8)} (h : V1 w5 wr l b1 b2 c i S) (hb : Below wr.heap.size wr w') : V1 w5 w' l b1 b2 c i S := by
  obtain ⟨F, h1, h2⟩ := h.at_
  obtain ⟨f, h3, h4⟩ := h.own
  exact ⟨h.bel.trans (hb.mono h.bel.size), ⟨F, h1.below hb h1.lt, h2⟩, ⟨f, h3.below hb, h4⟩⟩
theorem V1.ownPut {w5 wr : World} {l : List Eqv} {b1 b2 c i : Nat} {S : List (List UInt8)} (h : V1 w5 wr l b1 b2 c i S) (h1 : w5.heap.size ≤ b1) (h2 : w5.heap.size ≤ b2) (hne : b1 ≠ b2) (hi : i < l.length) (hi6 : i ≤ 1000) (hs : (nmOf l i).length ≤ 1100000) :
    ∃ w', (Instr.mapUpdate 47 (.map (some b2)) (.string (str (nmOf l i))) (.bool true)).run Try.prog wr = .ok () w' ∧ V1 w5 w' l b1 b2 c (i + 1) S := by
  obtain ⟨F, k1, k2⟩ := h.at_
  obtain ⟨f, k3, k4⟩ := h.own
  obtain ⟨w', hr, k5, hg⟩ := blput_run k3 (by omega) (nmOf l i) hs
  refine ⟨w', hr, h.bel.grown hg h.bel.size (fun g e => by cases e; exact h2), ⟨F, k1.kept hg (by simpa using hne), k2⟩, _, k5, fun s => ?_⟩
  simp only [Bool.or_eq_true, decide_eq_true_eq, k4]
  constructor
  · rintro (rfl | ⟨j, j1, j2, j3⟩)
    · exact ⟨i, by omega, hi, rfl⟩
    · exact ⟨j, by omega, j2, j3⟩
  · rintro ⟨j, j1, j2, rfl⟩
    by_cases hj : j = i
    · subst hj; exact .inl rfl
    · exact .inr ⟨j, by omega, j2, rfl⟩
theorem V1.atPut {w5 wr : World} {l : List Eqv} {b1 b2 c i : Nat} {S : List (List UInt8)} (h : V1 w5 wr l b1 b2 c i S) (h1 : w5.heap.size ≤ b1) (h2 : w5.heap.size ≤ b2) (hne : b1 ≠ b2) (hc : c ≤ 2000000) (s : List UInt8) (hs : s.length ≤ 1100000) (v : Int) (hv : 0 ≤ v ∧ v < 4294967296) :
    ∃ w', (Instr.mapUpdate 46 (.map (some b1)) (.string (str s)) (.int .u32 v)).run Try.prog wr = .ok () w' ∧ V1 w5 w' l b1 b2 (c + 1) i (S ++ [s]) ∧ wr.grownBy w' (some b1) := by
  obtain ⟨F, k1, k2, k2'⟩ := h.at_
  obtain ⟨f, k3, k4⟩ := h.own
  obtain ⟨w', hr, k5, hg⟩ := put_run k1 (by omega) s hs v hv
  refine ⟨w', hr, ⟨h.bel.grown hg h.bel.size (fun g e => by cases e; exact h1), ⟨_, k5, fun x hx => ?_, fun x z hz => ?_⟩, f, k3.kept hg (by simpa using fun e => hne e.symm), k4⟩, hg⟩
  · unfold putF
    by_cases e : x = s
    · rw [if_pos e]; rfl
    · rw [if_neg e]
      rcases List.mem_append.1 hx with hx | hx
      · exact k2 x hx
      · exact absurd (List.mem_singleton.1 hx) e
  · unfold putF at hz
    split at hz
    · cases hz; exact hv
    · exact k2' x z hz
structure V3 (w5 wr : World) (l : List Eqv) (b1 b2 i k : Nat) (G : List UInt8 → Int) : Prop where
  bel : Below w5.heap.size w5 wr
  at_ : ∃ F c, MapIs wr b1 c F ∧ c ≤ 1048576 + i + k ∧ (∀ s ∈ nmsOf l, (∀ j, j < k → nmOf l j ≠ s) → F s = some (G s)) ∧ (∀ j, j < i → F (61 :: nmOf l j) = some (vvF l G j)) ∧ ∀ j, j < k → F (nmOf l j) = some (vvF l G j)
  own : ∃ f c, BlIs wr b2 c f ∧ ∀ s, f s = true ↔ ∃ j, j < l.length ∧ nmOf l j = s
section
variable {w5 wr w' : World} {l : List Eqv} {b1 b2 i k : Nat} {G : List UInt8 → Int}
theorem V1.three {c : Nat} (h : V1 w5 wr l b1 b2 c l.length (nmsOf l)) (hc : c ≤ 1048576) : ∃ G, (∀ s, 0 ≤ G s ∧ G s < 4294967296) ∧ V3 w5 wr l b1 b2 0 0 G := by
  obtain ⟨F, k1, k2, k3⟩ := h.at_
  obtain ⟨f, k4, k5⟩ := h.own
  refine ⟨fun s => (F s).getD 0, fun s => ?_, h.bel, ⟨F, c, k1, by omega, fun s hs _ => ?_, fun j hj => by omega, fun j hj => by omega⟩, f, _, k4, fun s => ?_⟩
  · show 0 ≤ (F s).getD 0 ∧ (F s).getD 0 < 4294967296
    cases hF : F s with
    | none => exact ⟨by decide, by decide⟩
    | some v => exact k3 s v hF
  · have := k2 s hs
    show F s = some ((F s).getD 0)
    cases hF : F s with
    | none => rw [hF] at this; cases this
    | some v => rfl
  · rw [k5]
    exact ⟨fun ⟨j, _, h2, h3⟩ => ⟨j, h2, h3⟩, fun ⟨j, h2, h3⟩ => ⟨j, h2, h2, h3⟩⟩
theorem V3.below (h : V3 w5 wr l b1 b2 i k G) (hb : Below wr.heap.size wr w') : V3 w5 w' l b1 b2 i k G := by
  obtain ⟨F, c, h1, h2⟩ := h.at_
  obtain ⟨f, c2, h3, h4⟩ := h.own
  exact ⟨h.bel.trans (hb.mono h.bel.size), ⟨F, c, h1.below hb h1.lt, h2⟩, ⟨f, c2, h3.below hb, h4⟩⟩
theorem V3.free (h : V3 w5 wr l b1 b2 i k G) (hs : Slb l) {j : Nat} (hj : j < l.length) {t : Tm} (ht : t ∈ ((solF l (nmOf l j)).getD ⟨[], 0⟩).terms) (hl : t.name.length ≤ 1100000) :
    (Instr.lookup 47 (.map (some b2)) (.string (str t.name)) false).run Try.prog wr = .ok (.bool false) wr := by
  obtain ⟨f, c2, h3, h4⟩ := h.own
  have hf : f t.name = false := by
    cases hx : f t.name with
    | false => rfl
    | true =>
      obtain ⟨i2, hi2, hn⟩ := (h4 _).1 hx
      obtain ⟨e, he⟩ := Option.isSome_iff_exists.1 ((hs.dom (nmOf l j)).2 ⟨j, hj, rfl⟩)
      rw [he] at ht
      exact absurd hn ((hs.none_iff _).1 (hs.free j hj e he t ht) i2 hi2)
  have := bllook_run h3 t.name hl
  rwa [hf] at this
theorem V3.putE (h : V3 w5 wr l b1 b2 i 0 G) (h1 : w5.heap.size ≤ b1) (h2 : w5.heap.size ≤ b2) (hne : b1 ≠ b2) (hi : i < l.length) (hi6 : l.length ≤ 60) (hs : (nmOf l i).length ≤ 1000000) (hlg : ∀ s ∈ nmsOf l, legB (str s) = true) (hnd : (l.map (·.1)).Nodup) :
    ∃ w', (Instr.mapUpdate 46 (.map (some b1)) (.string (str (61 :: nmOf l i))) (.int .u32 (vvF l G i))).run Try.prog wr = .ok () w' ∧ V3 w5 w' l b1 b2 (i + 1) 0 G := by
  obtain ⟨F, c, k1, kc, k2, k3, k4⟩ := h.at_
  obtain ⟨f, c2, k5, k6⟩ := h.own
  obtain ⟨w', hr, k7, hg⟩ := put_run k1 (by omega) (61 :: nmOf l i) (by simp; omega) (vvF l G i) (vvF_lt _ _ _)
  refine ⟨w', hr, h.bel.grown hg h.bel.size (fun g e => by cases e; exact h1), ⟨_, _, k7, by omega, fun s hs' hn => ?_, fun j hj => ?_, fun j hj => by omega⟩, f, c2, k5.kept hg (by simpa using fun e => hne e.symm), k6⟩
  · unfold putF
    rw [if_neg (fun e => by have := hlg s hs'; rw [e, leg_eq] at this; cases this)]
    exact k2 s hs' hn
  · unfold putF
    by_cases e : (61 :: nmOf l j) = 61 :: nmOf l i
    · rw [if_pos e]
      injection e with _ e
      have : j = i := nm_inj hnd (by omega) hi e
      rw [this]
    · rw [if_neg e]
      exact k3 j (by
        rcases Nat.lt_or_eq_of_le (Nat.lt_succ_iff.1 hj) with h9 | h9
        · exact h9
        · subst h9; exact absurd rfl e)
theorem V3.putN (h : V3 w5 wr l b1 b2 l.length k G) (h1 : w5.heap.size ≤ b1) (h2 : w5.heap.size ≤ b2) (hne : b1 ≠ b2) (hk : k < l.length) (hi6 : l.length ≤ 60) (hs : (nmOf l k).length ≤ 1000000) (hlg : ∀ j, j < l.length → legB (str (nmOf l j)) = true) (hnd : (l.map (·.1)).Nodup) :
    (Instr.lookup 46 (.map (some b1)) (.string (str (61 :: nmOf l k))) false).run Try.prog wr = .ok (.int .u32 (vvF l G k)) wr ∧
    ∃ w', (Instr.mapUpdate 46 (.map (some b1)) (.string (str (nmOf l k))) (.int .u32 (vvF l G k))).run Try.prog wr = .ok () w' ∧ V3 w5 w' l b1 b2 l.length (k + 1) G ∧ wr.grownBy w' (some b1) := by
  obtain ⟨F, c, k1, kc, k2, k3, k4⟩ := h.at_
  obtain ⟨f, c2, k5, k6⟩ := h.own
  have hlk := look_run k1 (61 :: nmOf l k) (by simp; omega)
  rw [k3 k hk] at hlk
  obtain ⟨w', hr, k7, hg⟩ := put_run k1 (by omega) (nmOf l k) (by omega) (vvF l G k) (vvF_lt _ _ _)
  refine ⟨hlk, w', hr, ⟨h.bel.grown hg h.bel.size (fun g e => by cases e; exact h1), ⟨_, _, k7, by omega, fun s hs' hn => ?_, fun j hj => ?_, fun j hj => ?_⟩, f, c2, k5.kept hg (by simpa using fun e => hne e.symm), k6⟩, hg⟩
  · unfold putF
    rw [if_neg (fun e => hn k (by omega) e.symm)]
    exact k2 s hs' fun j hj => hn j (by omega)
  · unfold putF
    rw [if_neg (fun e => by have := hlg k hk; rw [← e, leg_eq] at this; cases this)]
    exact k3 j hj
  · unfold putF
    by_cases e : nmOf l j = nmOf l k
    · rw [if_pos e]
      have : j = k := nm_inj hnd (by omega) hk e
      rw [this]
    · rw [if_neg e]
      exact k4 j (by
        rcases Nat.lt_or_eq_of_le (Nat.lt_succ_iff.1 hj) with h9 | h9
        · exact h9
        · subst h9; exact absurd rfl e)
theorem V3.valS (h : V3 w5 wr l b1 b2 i 0 G) (hS : SolvIn l) {j : Nat} {q : Eqv} (hq : (solL l)[j]? = some q) (hnl : ∀ s ∈ nmsOf l, s.length ≤ 1100000) (a : Option Addr) (c : Nat) (hT : TmLies wr a q.2.terms) :
    Calls Try.prog 21 #[linV (.slice a q.2.terms.length c) q.2.const, .map (some b1)] wr fun e w' => e = .returned (.tuple #[.int .u32 (vvF l G j), .bool true]) ∧ Below wr.heap.size wr w' := by
  obtain ⟨F, c1, k1, kc, k2, k3, k4⟩ := h.at_
  obtain ⟨_, p1, p2⟩ := solL_mem hS q (List.mem_of_getElem? hq)
  have hlen := canon_len p1.terms p2
  refine (value_any a c q.2.terms q.2.const b1 c1 F wr hT (by have := hS.nms; omega) (fun t ht => hnl _ (p2 t ht)) k1).mono ?_
  rintro e w' ⟨hb, he⟩
  refine ⟨?_, hb⟩
  unfold ValOut at he
  rw [valueF_sum F G q.2.terms (fun t ht => k2 _ (p2 t ht) (fun j hj => by omega)) q.2.const p1.const] at he
  rw [he]
  have hj : j < l.length := by have := (List.getElem?_eq_some_iff.1 hq).1; rwa [solL_len] at this
  unfold solL at hq
  rw [List.getElem?_map, List.getElem?_range hj] at hq
  have hq' : (nmOf l j, (solF l (nmOf l j)).getD ⟨[], 0⟩) = q := by simpa using hq
  subst hq'
  rfl
theorem V3.valL (h : V3 w5 wr l b1 b2 l.length l.length G) (hS : SolvIn l) (hs : Slb l) {j : Nat} {q : Eqv} (hq : l[j]? = some q) (hnl : ∀ s ∈ nmsOf l, s.length ≤ 1100000) (a : Option Addr) (c : Nat) (hT : TmLies wr a q.2.terms) :
    Calls Try.prog 21 #[linV (.slice a q.2.terms.length c) q.2.const, .map (some b1)] wr fun e w' => e = .returned (.tuple #[.int .u32 (vvF l G j), .bool true]) ∧ Below wr.heap.size wr w' := by
  obtain ⟨F, c1, k1, kc, k2, k3, k4⟩ := h.at_
  have hj := (List.getElem?_eq_some_iff.1 hq).1
  have hqm := List.mem_of_getElem? hq
  have hlen := canon_len (hS.can q hqm).terms fun t ht => nms_mem hqm ht
  refine (value_any a c q.2.terms q.2.const b1 c1 F wr hT (by have := hS.nms; omega) (fun t ht => hnl _ (nms_mem hqm ht)) k1).mono ?_
  rintro e w' ⟨hb, he⟩
  refine ⟨?_, hb⟩
  unfold ValOut at he
  have hF : ∀ t ∈ q.2.terms, F t.name = some (thru (solF l) G t.name) := fun t ht => by
    by_cases ho : ∃ i, i < l.length ∧ nmOf l i = t.name
    · obtain ⟨i2, hi2, hn⟩ := ho
      obtain ⟨e2, he2⟩ := Option.isSome_iff_exists.1 ((hs.dom t.name).2 ⟨i2, hi2, hn⟩)
      rw [thru_some he2, ← hn, k4 i2 hi2]
      unfold vvF
      rw [hn, he2]
      rfl
    · have hno : solF l t.name = none := (hs.none_iff _).2 fun i2 hi2 e2 => ho ⟨i2, hi2, e2⟩
      rw [thru_none hno]
      exact k2 _ (nms_mem hqm ht) fun i2 hi2 e2 => ho ⟨i2, hi2, e2⟩
  rw [valueF_sum F _ q.2.terms hF q.2.const (hS.can q hqm).const] at he
  rw [he]
  obtain ⟨e2, he2⟩ := Option.isSome_iff_exists.1 ((hs.dom (nmOf l j)).2 ⟨j, hj, rfl⟩)
  have h9 := hs.value hj he2 (G := G)
  rw [exOf_get hq] at h9
  have : vvF l G j = ev (thru (solF l) G) q.2 := by
    unfold vvF
    rw [he2]
    exact h9
  rw [this]
  rfl
theorem V3.lookN (h : V3 w5 wr l b1 b2 l.length l.length G) {j : Nat} (hj : j < l.length) (hs : (nmOf l j).length ≤ 1000000) : (Instr.lookup 46 (.map (some b1)) (.string (str (nmOf l j))) false).run Try.prog wr = .ok (.int .u32 (vvF l G j)) wr := by
  obtain ⟨F, c, k1, kc, k2, k3, k4⟩ := h.at_
  have hlk := look_run k1 (nmOf l j) (by omega)
  rwa [k4 j hj] at hlk
end
end Go.Proofs.Ytebbbefknfldoaa
namespace Go.Proofs.Ytebbbefknfldoaa
open Go.ChangeShapes Go.WideShapes Go.ChangeAt Go.RowKit Go.Sort
set_option linter.unusedVariables false
set_option linter.unusedSimpArgs false
set_option maxRecDepth 100000
structure NmS (w0 : World) (ga : Option Addr) (gc : Nat) (ns : List (List UInt8)) (n : Nat) (wr : World) : Prop where
  bel : Below w0.heap.size w0 wr
  own : wr.ownsRow w0.heap.size 9 1 (.slice ga n gc) n (ns.map encStr)
theorem NmS.len {w0 : World} {ga : Option Addr} {gc : Nat} {ns : List (List UInt8)} {n : Nat} {wr : World} (h : NmS w0 ga gc ns n wr) : n = ns.length := by
  have := h.own.1
  simp at this
  omega
theorem NmS.below {w0 : World} {ga : Option Addr} {gc : Nat} {ns : List (List UInt8)} {n : Nat} {wr w' : World} (h : NmS w0 ga gc ns n wr) (hb : Below wr.heap.size wr w') : NmS w0 ga gc ns n w' := ⟨h.bel.trans (hb.mono h.bel.size), own_keptR h.own hb⟩
theorem NmS.push {w0 : World} {ga : Option Addr} {gc : Nat} {ns : List (List UInt8)} {n : Nat} {wr w3 : World} (h : NmS w0 ga gc ns n wr) {s : List UInt8} {v' : Value} (ho : w3.ownsRow w0.heap.size 9 1 v' (n + 1) (ns.map encStr ++ [encStr s])) (hg : wr.grownBy w3 (Value.slice ga n gc).ownBlock) : ∃ a' c', v' = .slice a' (n + 1) c' ∧ NmS w0 a' c' (ns ++ [s]) (n + 1) w3 := by
  obtain ⟨a', c', rfl⟩ := own_slice ho
  exact ⟨a', c', rfl, h.bel.grown hg h.bel.size (fun j hj => (h.own.lt _ hj).1), by rw [List.map_append]; exact ho⟩
end Go.Proofs.Ytebbbefknfldoaa
