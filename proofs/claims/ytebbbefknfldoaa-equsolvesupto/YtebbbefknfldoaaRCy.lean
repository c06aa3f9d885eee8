/- The document's Cycle, walked. -/
import Derived.Test.YtebbbefknfldoaaTurnW
import Derived.Deep.SlicePairs
import Derived.Lib.SmallJoins
import Derived.ChangeArms
import Derived.Test.YtebbbefknfldoaaRgL
import Derived.Deep.RegionHeld3
import Derived.Deep.DeepCutAuto
import Derived.Test.YtebbbefknfldoaaRBk
import Derived.Test.YtebbbefknfldoaaKn
import Derived.Sort.Walk0
import Derived.BigQuiet
/- How equs that came in are opened. -/
namespace Go.Proofs.Ytebbbefknfldoaa
open Go.ChangeShapes Go.WideShapes Go.ChangeAt Go.RowKit
set_option linter.unusedVariables false
set_option linter.unusedSimpArgs false
set_option maxRecDepth 100000
theorem cel9 : Try.prog.cellsOf 9 = 1 := by kernel_rfl
theorem cel86 : Try.prog.cellsOf 26 = 1 := by kernel_rfl
theorem cel87 : Try.prog.cellsOf 27 = 1 := by kernel_rfl
theorem cel89 : Try.prog.cellsOf 29 = 2 := by kernel_rfl
theorem cel101 : Try.prog.cellsOf 31 = 3 := by kernel_rfl
theorem cel123 : Try.prog.cellsOf 49 = 2 := by kernel_rfl
theorem flat_at {α β : Type} (f : α → List β) (k : Nat) (hf : ∀ x, (f x).length = k) : ∀ (l : List α) (i j : Nat) (x : α), l[i]? = some x → j < k → (l.flatMap f)[i * k + j]? = (f x)[j]?
  | [], i, j, x, h, hj => by simp at h
  | y :: l, 0, j, x, h, hj => by
    simp only [List.getElem?_cons_zero, Option.some.injEq] at h
    subst h
    rw [List.flatMap_cons, Nat.zero_mul, Nat.zero_add, List.getElem?_append_left (by rw [hf]; exact hj)]
  | y :: l, i + 1, j, x, h, hj => by
    rw [List.flatMap_cons, List.getElem?_append_right (by rw [hf, Nat.succ_mul]; omega), hf, show (i + 1) * k + j - k = i * k + j by rw [Nat.succ_mul]; omega]
    exact flat_at f k hf l i j x (by simpa using h) hj
theorem list3 {α : Type} {l : List α} (h : l.length = 3) : ∃ a b c, l = [a, b, c] := by
  match l, h with
  | [a, b, c], _ => exact ⟨a, b, c, rfl⟩
theorem str_bytes (s : ByteArray) : s = str s.data.toList := by simp [str]
theorem list_each {α : Type} {n : Nat} {P : Nat → α → Prop} (h : ∀ i, i < n → ∃ x, P i x) : ∃ l : List α, l.length = n ∧ ∀ i x, l[i]? = some x → P i x := by
  induction n with
  | zero => exact ⟨[], rfl, fun i x hx => by simp at hx⟩
  | succ n ih =>
    obtain ⟨l, hl, he⟩ := ih fun i hi => h i (by omega)
    obtain ⟨x, hx⟩ := h n (by omega)
    refine ⟨l ++ [x], by simp [hl], fun i y hy => ?_⟩
    by_cases hi : i < l.length
    · rw [List.getElem?_append_left hi] at hy
      exact he i y hy
    · have hi2 := (List.getElem?_eq_some_iff.1 hy).1
      simp at hi2
      obtain rfl : i = l.length := by omega
      simp at hy
      subst hy
      rw [hl]
      exact hx
structure LinC (W : World) (B : Nat) (a : Option Addr) (c : Nat) (x : Lin) : Prop where
  lies : TmLies W a x.terms
  lo : 0 ≤ x.const
  hi : x.const < 4294967296
  few : x.terms.length ≤ B
  each : ∀ t ∈ x.terms, 0 ≤ t.coef ∧ t.coef < 4294967296 ∧ t.name.length ≤ B
  nil : a = none → c = 0
theorem open_linC {H : Type} {enc : TypeId × Value → H} {W : World} {c0 c1 : Value} {d : DataW H} {p : List MemPlace} {fuel : Nat}
    (hf : DataW.trod enc Try.prog W 0 (fun _ => true) true fuel 29 [c0, c1] = some (d, p)) :
    ∃ a c x, c0 = .slice a x.terms.length c ∧ c1 = .int .u32 x.const ∧ LinC W (Rows.uptoBulk d) a c x := by
  obtain ⟨y0, y1, n, hx, hl, t0, t1⟩ := trod_struct2 Try.underlying29 hf
  simp only [cel86, cel87, List.drop, List.take] at t0 t1
  obtain ⟨k, hk, rfl, wk⟩ := DataW.trod_int Try.underlying27 t1
  simp only [List.cons.injEq, and_true] at hk
  subst hk
  have hb := bounds_u32 wk
  simp only [Prod.mk.injEq] at hx
  obtain ⟨rfl, rfl⟩ := hx
  rcases Deep.open_slice_pairs Try.underlying26 Try.underlying49 cel123 rfl rfl cel9 cel87 t0 with ⟨hc, rfl⟩ | ⟨a, len, cap, m, n', V0, V1, D0, D1, P0, P1, hc, _, hlc, hcm, hm, rfl, hall⟩
  · simp only [List.cons.injEq, and_true] at hc
    subst hc
    exact ⟨none, 0, ⟨[], k⟩, rfl, rfl, ⟨.inl rfl, hb.1, by have := hb.2; show k < _; omega, Nat.zero_le _, (fun t ht => by (cases ht)), fun _ => rfl⟩⟩
  · simp only [List.cons.injEq, and_true] at hc
    subst hc
    simp only [if_true] at hm
    subst hm
    have hone : ∀ i, i < len → V0 i = .string (str (nameV (V0 i))) ∧ V1 i = .int .u32 (intOf (V1 i)) ∧ 0 ≤ intOf (V1 i) ∧ intOf (V1 i) < 4294967296 ∧ (nameV (V0 i)).length + 1 ≤ Rows.uptoBulk (D0 i) := fun i hi => by
      obtain ⟨_, _, h0, h1⟩ := hall i (by omega)
      obtain ⟨s, e0, e1, _⟩ := DataW.trod_string Try.underlying9 h0
      obtain ⟨z, e2, e3, wz⟩ := DataW.trod_int Try.underlying27 h1
      simp only [List.cons.injEq, and_true] at e0 e2
      simp only [Prod.mk.injEq] at e1 e3
      rw [e0, e2, e1.1]
      have := bounds_u32 wz
      refine ⟨?_, rfl, this.1, by simp only [intOf]; omega, by simp [nameV, Rows.uptoBulk]⟩
      simp [nameV, str]
    have hbulk : ∀ i, i < len → Rows.uptoBulk (D0 i) + 1 ≤ Rows.uptoBulkAll ((List.range len).map fun i => DataW.agg [D0 i, D1 i]) := fun i hi => by
      have := bulk_mem ((List.range len).map fun i => DataW.agg [D0 i, D1 i]) (.agg [D0 i, D1 i]) (List.mem_map.2 ⟨i, List.mem_range.2 hi, rfl⟩)
      simp only [Rows.uptoBulk, Rows.uptoBulkAll] at this
      omega
    have hfew := bulk_all ((List.range len).map fun i => DataW.agg [D0 i, D1 i])
    simp only [List.length_map, List.length_range] at hfew
    have hB : Rows.uptoBulkAll ((List.range len).map fun i => DataW.agg [D0 i, D1 i]) ≤ Rows.uptoBulk (DataW.agg [DataW.slice ((List.range len).map fun i => DataW.agg [D0 i, D1 i]) ((List.range (m - len)).map fun j => DataW.agg [D0 (len + j), D1 (len + j)]), DataW.lit (Lit.int IntKind.u32 k)]) := by
      simp only [Rows.uptoBulk, Rows.uptoBulkAll]
      omega
    have hat : ∀ i t, ((List.range len).map fun i => (⟨nameV (V0 i), intOf (V1 i)⟩ : Tm))[i]? = some t → i < len ∧ t = ⟨nameV (V0 i), intOf (V1 i)⟩ := fun i t ht => by
      rw [List.getElem?_map, Option.map_eq_some_iff] at ht
      obtain ⟨j, hj, rfl⟩ := ht
      obtain ⟨hj1, hj2⟩ := List.getElem?_eq_some_iff.1 hj
      simp at hj1 hj2
      subst hj2
      exact ⟨hj1, rfl⟩
    refine ⟨some a, m, ⟨(List.range len).map fun i => ⟨nameV (V0 i), intOf (V1 i)⟩, k⟩, by simp, rfl, ⟨?_, hb.1, by have := hb.2; show k < _; omega, by simp; omega, fun t ht => ?_, fun h => (by cases h)⟩⟩
    · by_cases h0 : len = 0
      · subst h0
        exact .inl rfl
      · obtain ⟨b, off, spot⟩ := a
        have hspot : spot = none := by simpa [Addr.add] using World.cell?_spot (hall 0 (by omega)).1
        subst hspot
        have hadd : ∀ j, (⟨b, off, none⟩ : Addr).add j = ⟨b, off + j, none⟩ := fun j => by unfold Addr.add; split <;> simp_all
        refine .inr ⟨b, off, rfl, ?_, fun i t ht => ?_⟩
        · have h1 := (hall 0 (by omega)).1
          apply Decidable.byContradiction
          intro hn
          unfold World.cell? at h1
          simp [Array.getElem?_eq_none (show W.heap.size ≤ b by omega), hadd] at h1
        · obtain ⟨hi, rfl⟩ := hat i t ht
          obtain ⟨k0, k1, _⟩ := hall i (by omega)
          rw [hadd] at k0 k1
          obtain ⟨e0, e1, _⟩ := hone i hi
          exact ⟨by rw [k0, ← e0], by rw [Nat.add_assoc, k1, ← e1]⟩
    · obtain ⟨i, hi⟩ := List.getElem?_of_mem ht
      obtain ⟨hi2, rfl⟩ := hat i t hi
      obtain ⟨_, _, e2, e3, e4⟩ := hone i hi2
      have := hbulk i hi2
      exact ⟨e2, e3, by simp only; omega⟩
theorem LinC.mono {W : World} {B C : Nat} {a : Option Addr} {c : Nat} {x : Lin} (h : LinC W B a c x) (hBC : B ≤ C) : LinC W C a c x :=
  ⟨h.lies, h.lo, h.hi, by have := h.few; omega, fun t ht => ⟨(h.each t ht).1, (h.each t ht).2.1, by have := (h.each t ht).2.2; omega⟩, h.nil⟩
theorem LinC.src {W : World} {B : Nat} {a : Option Addr} {c : Nat} {x : Lin} (h : LinC W B a c x) : Src W (.slice a x.terms.length c) x.terms.length (rowT x.terms) := by
  rcases h.lies with h0 | ⟨g, o, rfl, hg, h1⟩
  · rw [h0]
    cases a with
    | none => exact .inl ⟨by rw [h.nil rfl]; rfl, rfl, rfl⟩
    | some y => exact .inr ⟨y, c, rfl, fun j u hj => (by simp [rowT] at hj)⟩
  · refine .inr ⟨_, c, rfl, fun j u hj => ?_⟩
    have hl : (rowT x.terms).length = x.terms.length * 2 := by
      unfold rowT
      generalize x.terms = l
      induction l with
      | nil => rfl
      | cons t l ih => rw [List.flatMap_cons, List.length_append, ih, List.length_cons]; show 2 + _ = _; omega
    have hj2 : j < x.terms.length * 2 := by
      have := (List.getElem?_eq_some_iff.1 hj).1
      omega
    have hq : j / 2 < x.terms.length := by omega
    have ht := List.getElem?_eq_getElem hq
    have hat := h1 (j / 2) _ ht
    have hfl := flat_at Tm.cells 2 (fun _ => rfl) x.terms (j / 2)
    unfold rowT at hj
    have hadd : (⟨g, o, none⟩ : Addr).add j = ⟨g, o + j, none⟩ := by
      unfold Addr.add
      split <;> simp_all
    rw [hadd]
    rcases Nat.mod_two_eq_zero_or_one j with hm | hm
    · have hf := hfl 0 _ ht (by omega)
      rw [show j / 2 * 2 + 0 = j by omega, hj] at hf
      have h3 := hat.name
      rw [show o + j / 2 * 2 = o + j by omega] at h3
      rw [h3]
      exact hf.symm
    · have hf := hfl 1 _ ht (by omega)
      rw [show j / 2 * 2 + 1 = j by omega, hj] at hf
      have h3 := hat.coef
      rw [show o + j / 2 * 2 + 1 = o + j by omega] at h3
      rw [h3]
      exact hf.symm
theorem add_none (b off j : Nat) : (⟨b, off, none⟩ : Addr).add j = ⟨b, off + j, none⟩ := by
  unfold Addr.add
  split <;> simp_all
theorem cells_at {W : World} {b off k : Nat} {cs : List Value} (h : W.cells? 0 ⟨b, off, none⟩ k = some cs) : ∀ j, j < k → W.cell? ⟨b, off + j, none⟩ = cs[j]? := fun j hj => by
  rw [← (World.cells?_some h).2.2 j hj, add_none]
theorem plain_addr {W : World} {a : Addr} {k : Nat} {cs : List Value} (hk : 0 < k) (h : W.cells? 0 a k = some cs) : ∃ g o, a = ⟨g, o, none⟩ ∧ g < W.heap.size := by
  obtain ⟨h1, h2, h3⟩ := World.cells?_some h
  have h0 := h3 0 hk
  rw [List.getElem?_eq_getElem (by omega)] at h0
  have hs := World.cell?_spot h0
  obtain ⟨b, off, spot⟩ := a
  have hspot : spot = none := by simpa [Addr.add] using hs
  subst hspot
  exact ⟨b, off, rfl, World.cells?_block h hk⟩
structure EqC (W : World) (B : Nat) (cs : List Value) (q : List UInt8 × Lin) (va : Option Addr) (vc : Nat) : Prop where
  is : cs = [.string (str q.1), .slice va q.2.terms.length vc, .int .u32 q.2.const]
  name : q.1.length ≤ B
  lin : LinC W B va vc q.2
theorem open_eqC {H : Type} {enc : TypeId × Value → H} {W : World} {cs : List Value} {d : DataW H} {p : List MemPlace} {fuel : Nat}
    (hf : DataW.trod enc Try.prog W 0 (fun _ => true) true fuel 31 cs = some (d, p)) :
    ∃ q va vc, EqC W (Rows.uptoBulk d) cs q va vc := by
  obtain ⟨y0, y1, n, hx, hl, t0, t1⟩ := trod_struct2 Try.underlying31 hf
  rw [cel101] at hl
  obtain ⟨c0, c1, c2, rfl⟩ := list3 hl
  simp only [cel9, cel89, List.drop, List.take] at t0 t1
  obtain ⟨s, e1, f1, _⟩ := DataW.trod_string Try.underlying9 t0
  simp only [List.cons.injEq, and_true] at e1
  subst e1
  obtain ⟨d1, p1⟩ := y1
  obtain ⟨va, vc, L, rfl, rfl, hL⟩ := open_linC t1
  simp only [Prod.mk.injEq] at hx
  obtain ⟨rfl, _⟩ := hx
  have hB3 : Rows.uptoBulk d1 ≤ Rows.uptoBulk (DataW.agg [y0.1, d1]) := by
    simp only [Rows.uptoBulk, Rows.uptoBulkAll]
    omega
  have hB1 : s.data.toList.length ≤ Rows.uptoBulk (DataW.agg [y0.1, d1]) := by
    rw [f1]
    simp only [Rows.uptoBulk, Rows.uptoBulkAll]
    omega
  exact ⟨(s.data.toList, L), va, vc, ⟨by simp [← str_bytes], hB1, hL.mono hB3⟩⟩
def EqSr (w : World) (a : Option Addr) (l : List (List UInt8 × Lin)) : Prop := l = [] ∨ ∃ g o, a = some ⟨g, o, none⟩ ∧ g < w.heap.size ∧ ∀ (i : Nat) (q : List UInt8 × Lin), l[i]? = some q → ∃ va vc, w.cell? ⟨g, o + i * 3, none⟩ = some (.string (str q.1)) ∧ w.cell? ⟨g, o + i * 3 + 1, none⟩ = some (.slice va q.2.terms.length vc) ∧ w.cell? ⟨g, o + i * 3 + 2, none⟩ = some (.int .u32 q.2.const) ∧ Src w (.slice va q.2.terms.length vc) q.2.terms.length (rowT q.2.terms)
theorem nms_bulk {H : Type} : ∀ (l : List Eqv) (ds : List (DataW H)), l.length = ds.length → (∀ (i : Nat) (q : Eqv), l[i]? = some q → ∃ d, ds[i]? = some d ∧ q.2.terms.length ≤ Rows.uptoBulk d) → (nmsOf l).length ≤ Rows.uptoBulkAll ds
  | [], ds, _, _ => Nat.zero_le _
  | q :: l, [], h, _ => by cases h
  | q :: l, d :: ds, h, h2 => by
    have h3 := nms_bulk l ds (by simpa using h) (fun i q' hq => h2 (i + 1) q' (by simpa using hq))
    obtain ⟨d', e, h4⟩ := h2 0 q rfl
    cases e
    show ((q.2.terms.map (·.name)) ++ nmsOf l).length ≤ _
    simp only [List.length_append, List.length_map, Rows.uptoBulkAll]
    omega
theorem open_equs {H : Type} {enc : TypeId × Value → H} {W : World} {c : Value} {d : DataW H} {p : List MemPlace} {fuel : Nat}
    (hf : DataW.trod enc Try.prog W 0 (fun _ => true) true fuel 22 [c] = some (d, p)) :
    ∃ a vc l, c = .slice a l.length vc ∧ EqIn W a l ∧ l.length ≤ Rows.uptoBulk d ∧ l.length ≤ vc ∧ vc ≤ maxLen ∧ (∀ q ∈ l, ∃ va vc, EqC W (Rows.uptoBulk d) [.string (str q.1), .slice va q.2.terms.length vc, .int .u32 q.2.const] q va vc) ∧ EqSr W a l ∧ (nmsOf l).length ≤ Rows.uptoBulk d := by
  rcases Deep.open_slice Try.underlying22 hf with ⟨hc, hx⟩ | ⟨a, len, cap, m, n, D, Pl, hc, _, hlc, hcm, hm, hx, hall⟩
  · simp only [List.cons.injEq, and_true] at hc
    subst hc
    exact ⟨none, 0, [], rfl, .inl rfl, Nat.zero_le _, Nat.le_refl _, Nat.zero_le _, (fun x hx => by cases hx), .inl rfl, Nat.zero_le _⟩
  · simp only [List.cons.injEq, and_true] at hc
    subst hc
    simp only [if_true] at hm
    subst hm
    simp only [Prod.mk.injEq] at hx
    obtain ⟨rfl, _⟩ := hx
    simp only [cel101] at hall
    have hfew := bulk_all ((List.range len).map D)
    simp only [List.length_map, List.length_range] at hfew
    have hB : Rows.uptoBulkAll ((List.range len).map D) ≤ Rows.uptoBulk (DataW.slice ((List.range len).map D) ((List.range (m - len)).map fun j => D (len + j))) := by
      simp only [Rows.uptoBulk]
      omega
    have heach : ∀ i, i < len → ∃ q : List UInt8 × Lin, ∃ cs va vc, W.cells? 0 (a.add (i * 3)) 3 = some cs ∧ EqC W (Rows.uptoBulk (DataW.slice ((List.range len).map D) ((List.range (m - len)).map fun j => D (len + j)))) cs q va vc ∧ q.2.terms.length ≤ Rows.uptoBulk (D i) := fun i hi => by
      obtain ⟨cs, h1, h2⟩ := hall i (by omega)
      obtain ⟨x, va, vc, hx⟩ := open_eqC h2
      have hb := bulk_mem ((List.range len).map D) (D i) (List.mem_map.2 ⟨i, List.mem_range.2 hi, rfl⟩)
      exact ⟨x, cs, va, vc, h1, ⟨hx.is, by have := hx.name; omega, hx.lin.mono (by omega)⟩, hx.lin.few⟩
    obtain ⟨l, hl, hP⟩ := list_each heach
    have hnm : (nmsOf l).length ≤ Rows.uptoBulkAll ((List.range len).map D) := nms_bulk l _ (by simp [hl]) (fun i q hq => by
      obtain ⟨cs, va, vc, _, _, h3⟩ := hP i q hq
      have hi : i < len := by rw [← hl]; exact (List.getElem?_eq_some_iff.1 hq).1
      exact ⟨D i, by rw [List.getElem?_map, List.getElem?_range hi]; rfl, h3⟩)
    refine ⟨some a, m, l, by rw [hl], ?_, by omega, by omega, hcm, fun x hx => ?_, ?_, by omega⟩
    · by_cases h0 : l = []
      · exact .inl h0
      · have hpos : 0 < l.length := List.length_pos_iff.2 h0
        obtain ⟨_, cs0, va0, vc0, hc0, _, _⟩ := heach 0 (by omega)
        rw [Nat.zero_mul, show a.add 0 = a from by simp [Addr.add]] at hc0
        obtain ⟨g, o, rfl, hg⟩ := plain_addr (by omega) hc0
        refine .inr ⟨g, o, rfl, hg, fun i x hx => ?_⟩
        obtain ⟨cs, va, vc, h1, h2, _⟩ := hP i x hx
        rw [add_none] at h1
        have hcl := cells_at h1
        rw [h2.is] at hcl
        exact ⟨va, vc, hcl 0 (by omega), hcl 1 (by omega), hcl 2 (by omega), h2.lin.lies⟩
    · obtain ⟨i, hi⟩ := List.getElem?_of_mem hx
      obtain ⟨cs, va, vc, h1, h2, _⟩ := hP i x hi
      exact ⟨va, vc, rfl, h2.name, h2.lin⟩
    · by_cases h0 : l = []
      · exact .inl h0
      · have hpos : 0 < l.length := List.length_pos_iff.2 h0
        obtain ⟨_, cs0, va0, vc0, hc0, _, _⟩ := heach 0 (by omega)
        rw [Nat.zero_mul, show a.add 0 = a from by simp [Addr.add]] at hc0
        obtain ⟨g, o, rfl, hg⟩ := plain_addr (by omega) hc0
        refine .inr ⟨g, o, rfl, hg, fun i x hx => ?_⟩
        obtain ⟨cs, va, vc, h1, h2, _⟩ := hP i x hx
        rw [add_none] at h1
        have hcl := cells_at h1
        rw [h2.is] at hcl
        exact ⟨va, vc, hcl 0 (by omega), hcl 1 (by omega), hcl 2 (by omega), h2.lin.src⟩
end Go.Proofs.Ytebbbefknfldoaa
/- spandrelkeep's CopyLin; CopyItems of nothing. -/
namespace Go.Proofs.Ytebbbefknfldoaa
open Go.ChangeShapes Go.WideShapes Go.ChangeAt Go.RowKit Go.Sort
set_option linter.unusedVariables false
set_option linter.unusedSimpArgs false
set_option maxRecDepth 100000
theorem own_voidK (w : World) (T : TypeId) (sz : Nat) : (w.alloc (.cells #[] T)).ownsRow w.heap.size T sz (.slice (some ⟨w.heap.size, 0, none⟩) 0 0) 0 [] :=
  ⟨by simp, .inr ⟨w.heap.size, 0, #[], rfl, Nat.le_refl _, heap_alloc_new w _, Nat.le_refl _, by decide, by simp, by simp⟩⟩
end Go.Proofs.Ytebbbefknfldoaa
/- The document's Solve, walked. -/
namespace Go.Proofs.Ytebbbefknfldoaa
open Go.ChangeShapes Go.WideShapes Go.ChangeAt Go.RowKit
set_option linter.unusedVariables false
set_option linter.unusedSimpArgs false
set_option maxRecDepth 100000
theorem own_setR {w : World} {lo : Nat} {T : TypeId} {sz g n c : Nat} {xs : List Value} (h : w.ownsRow lo T sz (.slice (some ⟨g, 0, none⟩) n c) n xs) (j : Nat) (u : Value) (hu : u.oneCell' = true) :
    (w.setCell ⟨g, j, none⟩ u).ownsRow lo T sz (.slice (some ⟨g, 0, none⟩) n c) n (xs.set j u) ∧ w.grownBy (w.setCell ⟨g, j, none⟩ u) (some g) := by
  obtain ⟨hl, h2⟩ := h
  rcases h2 with ⟨hv, _⟩ | ⟨g', cap, cur, hv, k1, k2, k3, k4, k5, k6⟩
  · cases hv
  · injection hv with e1 e2 e3
    cases e1
    subst e3
    obtain ⟨a, b⟩ := row_set k2 j u
    refine ⟨⟨by simpa using hl, .inr ⟨g, c, _, rfl, k1, a, k3, k4, by simpa using k5, ?_⟩⟩, b⟩
    rw [← k6]
    simp [List.take_set]
theorem rowQ_set : ∀ (qs : List (Eqv × Option Addr × Nat)) (i : Nat) (q : Eqv × Option Addr × Nat) (e : Lin) (a : Option Addr) (c : Nat), qs[i]? = some q → rowQ (qs.set i ((q.1.1, e), a, c)) = ((rowQ qs).set (i * 3 + 1) (.slice a e.terms.length c)).set (i * 3 + 2) (.int .u32 e.const)
  | [], i, q, e, a, c, h => by cases h
  | x :: l, 0, q, e, a, c, h => by
    have : x = q := by simpa using h
    subst this
    rfl
  | x :: l, i + 1, q, e, a, c, h => by
    have ih := rowQ_set l i q e a c (by simpa using h)
    have e0 : ∀ (y : Eqv × Option Addr × Nat) m, rowQ (y :: m) = .string (str y.1.1) :: .slice y.2.1 y.1.2.terms.length y.2.2 :: .int .u32 y.1.2.const :: rowQ m := fun _ _ => rfl
    rw [List.set_cons_succ, e0, e0, ih, show (i + 1) * 3 + 1 = i * 3 + 1 + 1 + 1 + 1 by omega, show (i + 1) * 3 + 2 = i * 3 + 2 + 1 + 1 + 1 by omega]
    simp only [List.set_cons_succ]
def itA (l : List Eqv) (k i : Nat) : List Eqv := (List.range l.length).map fun j => (nmOf l j, itN l (if j < i then k + 1 else k) (exOf l j))
theorem itA_len {l : List Eqv} {k i : Nat} : (itA l k i).length = l.length := by simp [itA]
theorem itA_get {l : List Eqv} {k i j : Nat} (hj : j < l.length) : (itA l k i)[j]? = some (nmOf l j, itN l (if j < i then k + 1 else k) (exOf l j)) := by
  unfold itA
  rw [List.getElem?_map, List.getElem?_range hj]
  rfl
theorem itA_zero {l : List Eqv} : itA l 0 0 = l := by
  apply List.ext_getElem?
  intro j
  by_cases hj : j < l.length
  · rw [itA_get hj, List.getElem?_eq_getElem hj, if_neg (by omega), itN, nmOf_get (List.getElem?_eq_getElem hj), exOf_get (List.getElem?_eq_getElem hj)]
  · rw [List.getElem?_eq_none (by rw [itA_len]; omega), List.getElem?_eq_none (by omega)]
theorem itA_set {l : List Eqv} {k i : Nat} (hi : i < l.length) : (itA l k i).set i (nmOf l i, putN (eqF l) (itN l k (exOf l i))) = itA l k (i + 1) := by
  apply List.ext_getElem?
  intro j
  rw [List.getElem?_set]
  by_cases hj : j < l.length
  · rw [itA_get hj, itA_get hj]
    by_cases hji : i = j
    · subst hji
      rw [if_pos rfl, if_pos (by rw [itA_len]; exact hi), if_pos (by omega), itN]
    · rw [if_neg hji]
      by_cases h1 : j < i
      · rw [if_pos h1, if_pos (by omega)]
      · rw [if_neg h1, if_neg (by omega)]
  · rw [if_neg (by omega), List.getElem?_eq_none (by rw [itA_len]; omega), List.getElem?_eq_none (by rw [itA_len]; omega)]
theorem itA_turn {l : List Eqv} {k : Nat} : itA l k l.length = itA l (k + 1) 0 := by
  unfold itA
  refine List.map_congr_left fun j hj => ?_
  rw [List.mem_range] at hj
  rw [if_pos hj, if_neg (by omega)]
theorem itA_full {l : List Eqv} (h : SolvIn l) (hc : ∀ x, ¬ CycN l x) : itA l l.length 0 = solL l := by
  unfold itA solL
  refine List.map_congr_left fun j hj => ?_
  rw [List.mem_range] at hj
  have hx : CanL (exOf l j) := by rw [exOf_get (List.getElem?_eq_getElem hj)]; exact h.can _ (List.getElem_mem hj)
  have := (h.slb hc).iter hj hx (Nat.le_refl _)
  rw [if_neg (by omega)]
  show _ = (nmOf l j, (solF l (nmOf l j)).getD ⟨[], 0⟩)
  rw [this]
  rfl
theorem itN_can {l : List Eqv} (h : SolvIn l) {j : Nat} (hj : j < l.length) : ∀ k, CanL (itN l k (exOf l j)) ∧ ∀ t ∈ (itN l k (exOf l j)).terms, t.name ∈ nmsOf l
  | 0 => by
    rw [itN, exOf_get (List.getElem?_eq_getElem hj)]
    exact ⟨h.can _ (List.getElem_mem hj), fun t ht => nms_mem (List.getElem_mem hj) ht⟩
  | k + 1 => by
    refine ⟨putN_can _ _, fun t ht => ?_⟩
    rw [itN] at ht
    rcases mem_putN ht with ⟨u, hu, e, _⟩ | ⟨s, e, he, u, hu, e2⟩
    · rw [← e]; exact (itN_can h hj k).2 u hu
    · rw [← e2]
      obtain ⟨q, hq, _, rfl⟩ := eqF_some he
      exact nms_mem hq hu
def TmNot (g : Nat) (b : Option Addr) (ts : List Tm) : Prop := ts = [] ∨ ∃ g' o, b = some ⟨g', o, none⟩ ∧ g' ≠ g
theorem tm_off {w w' : World} {b : Option Addr} {ts : List Tm} {g : Nat} (h : TmLies w b ts) (hn : TmNot g b ts) (hg : w.grownBy w' (some g)) : TmLies w' b ts := by
  rcases hn with hn | ⟨g', o', hb, hne⟩
  · exact .inl hn
  · rcases h with h | ⟨g2, o, ha, hlt, h⟩
    · exact .inl h
    · rw [ha] at hb
      injection hb with hb
      injection hb with hb1 hb2
      refine .inr ⟨g2, o, ha, Nat.lt_of_lt_of_le hlt hg.size, fun i t hi => ?_⟩
      have hblk := hg.block g2 hlt (fun e => hne (by injection e with e; rw [← hb1, e]))
      obtain ⟨k1, k2⟩ := h i t hi
      refine ⟨?_, ?_⟩
      · unfold World.cell? at k1 ⊢
        rw [hblk]; exact k1
      · unfold World.cell? at k2 ⊢
        rw [hblk]; exact k2
structure RS (w wr : World) (m : List Eqv) (a : Option Addr) (c : Nat) : Prop where
  bel : Below w.heap.size w wr
  row : ∃ qs, qs.map (·.1) = m ∧ wr.ownsRow w.heap.size 31 3 (.slice a m.length c) m.length (rowQ qs) ∧ ∀ q ∈ qs, TmLies wr q.2.1 q.1.2.terms ∧ ∀ g, a = some ⟨g, 0, none⟩ → TmNot g q.2.1 q.1.2.terms
theorem RS.eqIn {w wr : World} {m : List Eqv} {a : Option Addr} {c : Nat} (h : RS w wr m a c) : EqIn wr a m := by
  obtain ⟨qs, h1, h2, h3⟩ := h.row
  have := own_eqIn h2 (by rw [← h1]; simp) (fun q hq => (h3 q hq).1)
  rwa [h1] at this
theorem RS.step {w wr w1 : World} {m : List Eqv} {a : Option Addr} {c : Nat} (h : RS w wr m a c) {i : Nat} {q : Eqv} (hq : m[i]? = some q) (hb : Below wr.heap.size wr w1) (e : Lin) (va : Option Addr) (n vc : Nat) (hn : n = e.terms.length) (ho : w1.ownsRow wr.heap.size 49 2 (.slice va n vc) n (rowT e.terms)) (g : Nat) (ha : a = some ⟨g, 0, none⟩) :
    RS w ((w1.setCell ⟨g, i * 3 + 1, none⟩ (.slice va n vc)).setCell ⟨g, i * 3 + 2, none⟩ (.int .u32 e.const)) (m.set i (q.1, e)) a c := by
  subst hn ha
  obtain ⟨qs, h1, h2, h3⟩ := h.row
  have hq' := hq
  rw [← h1, List.getElem?_map] at hq'
  cases hqi : qs[i]? with
  | none => rw [hqi] at hq'; cases hq'
  | some p =>
    rw [hqi] at hq'
    have hp : p.1 = q := by simpa using hq'
    have hlt := h2.lt g rfl
    obtain ⟨s1, g1⟩ := own_setR (own_keptR h2 hb) (i * 3 + 1) (.slice va e.terms.length vc) rfl
    obtain ⟨s2, g2⟩ := own_setR s1 (i * 3 + 2) (.int .u32 e.const) rfl
    have hg := grown_trans g1 g2
    have hno : TmNot g va e.terms := by
      by_cases h0 : e.terms.length = 0
      · exact .inl (List.eq_nil_of_length_eq_zero h0)
      · obtain ⟨g', rfl, _, _⟩ := own_addr ho (by omega)
        have := ho.lt g' rfl
        exact .inr ⟨g', 0, rfl, by omega⟩
    refine ⟨(h.bel.trans (hb.mono h.bel.size)).grown hg (Nat.le_trans h.bel.size hb.size) (fun g' e' => by cases e'; exact hlt.1), qs.set i ((q.1, e), va, vc), ?_, ?_, fun x hx => ?_⟩
    · rw [List.map_set, h1]
    · rw [List.length_set, ← hp, rowQ_set qs i p e va vc hqi]
      exact s2
    · rcases List.mem_or_eq_of_mem_set hx with hx | rfl
      · obtain ⟨k1, k2⟩ := h3 x hx
        exact ⟨tm_off (k1.below hb (Nat.le_refl _)) (k2 g rfl) hg, k2⟩
      · exact ⟨tm_off (own_tmLies ho) hno hg, fun g' e' => by cases e'; exact hno⟩
theorem RS.at_ {w wr : World} {m : List Eqv} {a : Option Addr} {c : Nat} (h : RS w wr m a c) {i : Nat} {q : Eqv} (hq : m[i]? = some q) :
    ∃ g, a = some ⟨g, 0, none⟩ ∧ m.length ≤ c ∧ ∃ va vc, TmLies wr va q.2.terms ∧ ∀ w1, Below wr.heap.size wr w1 → w1.cell? ⟨g, i * 3 + 1, none⟩ = some (.slice va q.2.terms.length vc) ∧ w1.cell? ⟨g, i * 3 + 2, none⟩ = some (.int .u32 q.2.const) ∧ ∀ j, w1.frozen? ⟨g, j, none⟩ = false := by
  obtain ⟨qs, h1, h2, h3⟩ := h.row
  have hi := (List.getElem?_eq_some_iff.1 hq).1
  have hq' := hq
  rw [← h1, List.getElem?_map] at hq'
  cases hqi : qs[i]? with
  | none => rw [hqi] at hq'; cases hq'
  | some p =>
    rw [hqi] at hq'
    have hp : p.1 = q := by simpa using hq'
    obtain ⟨g, rfl, hcl, _⟩ := own_addr h2 (by omega)
    obtain ⟨r1, r2, r3⟩ := rowQ_get qs i p hqi
    refine ⟨g, rfl, hcl, p.2.1, p.2.2, by rw [← hp]; exact (h3 p (List.mem_of_getElem? hqi)).1, fun w1 hb => ?_⟩
    have h4 := own_keptR h2 hb
    obtain ⟨g', e', _, hc⟩ := own_addr h4 (by omega)
    cases e'
    obtain ⟨cur, hcur⟩ := own_type h4 (g := g) rfl
    rw [← hp]
    exact ⟨hc _ _ r2, hc _ _ r3, fun j => frozen_of_row w1 g j _ 31 hcur⟩
theorem eqIn_src {w : World} {a : Option Addr} {l : List Eqv} {c : Nat} (h : EqIn w a l) (h0 : a = none → c = 0) : ∃ qs, qs.map (·.1) = l ∧ qs.length = l.length ∧ (∀ w', Below w.heap.size w w' → Src w' (.slice a l.length c) l.length (rowQ qs)) ∧ ∀ q ∈ qs, ∀ w', Below w.heap.size w w' → TmLies w' q.2.1 q.1.2.terms ∧ ∀ g, w.heap.size ≤ g → TmNot g q.2.1 q.1.2.terms := by
  by_cases hl : l = []
  · subst hl
    refine ⟨[], rfl, rfl, fun w' hb => ?_, fun q hq => by cases hq⟩
    cases a with
    | none => rw [h0 rfl]; exact .inl ⟨rfl, rfl, rfl⟩
    | some a => exact .inr ⟨a, c, rfl, fun j u hu => by cases hu⟩
  · obtain ⟨g, o, qs, rfl, hqs, hQ⟩ := eqIn_q h hl
    have hlen : qs.length = l.length := by rw [← hqs, List.length_map]
    refine ⟨qs, hqs, hlen, fun w' hb => ?_, fun q hq w' hb => ?_⟩
    · have := (hQ.below hb).srcTake qs.length c
      rw [List.take_length, hlen] at this
      exact this
    · obtain ⟨i, hi, rfl⟩ := List.getElem_of_mem hq
      have hat := (hQ.at_ i _ (List.getElem?_eq_getElem hi)).lies
      refine ⟨hat.below hb (Nat.le_refl _), fun g' hg' => ?_⟩
      rcases hat with h1 | ⟨g2, o2, e2, hlt, _⟩
      · exact .inl h1
      · exact .inr ⟨g2, o2, e2, by omega⟩
set_option maxHeartbeats 16000000 in
theorem refSolve_ok {l : List Eqv} (h : SolvIn l) (hS : (nmsOf l).length ≤ 1100000) (hc : ∀ x, ¬ CycN l x) (la : Option Addr) (lc : Nat) (h0 : la = none → lc = 0) (w : World) (hE : EqIn w la l) :
    Calls Try.prog 17 #[.slice la l.length lc] w fun e w' => ∃ a c, e = .returned (.tuple #[.slice a l.length c, .int .i64 0, .int .i64 0]) ∧ EqIn w' a (solL l) ∧ Below w.heap.size w w' := by
  have hts : ∀ q ∈ l, q.2.terms.length ≤ 9000000 := fun q hq => by have := (h.held q hq).2.1; omega
  have hbe : backL l = [] := List.eq_nil_iff_forall_not_mem.2 fun i hi => by
    obtain ⟨h1, h2⟩ := (backL_mem i).1 hi
    exact hc (nmOf l i) ⟨i, h1, h2, rfl⟩
  have h33 : Hid (Calls Try.prog 33 #[.slice la l.length lc] w fun e w' => ∃ ab cb, e = .returned (.slice ab 0 cb) ∧ Hid (Below w.heap.size w w')) := by
    refine (back_any l la lc (by have := h.len; omega) h.nd hts w hE).mono ?_
    rintro e w' ⟨hb, v, rfl, ho⟩
    rw [hbe] at ho
    obtain ⟨a, c, rfl⟩ := own_slice ho
    exact ⟨a, c, rfl, hb⟩
  obtain ⟨qs, hqs, hql, hsrc0, hqm⟩ := eqIn_src hE h0
  have hsrc := Hid.intro hsrc0
  have hput : Hid (∀ wr k i a c, RS w wr (itA l k i) a c → i < l.length → ∃ g va vc n kk, a = some ⟨g, 0, none⟩ ∧ l.length ≤ c ∧ wr.cell? ⟨g, i * 3 + 1, none⟩ = some (.slice va n vc) ∧ wr.cell? ⟨g, i * 3 + 2, none⟩ = some (.int .u32 kk) ∧
      Calls Try.prog 19 #[linV (.slice va n vc) kk, .slice la l.length lc] wr fun e w1 => ∃ a2 n2 c2 k2, e = .returned (linV (.slice a2 n2 c2) k2) ∧ (w1.cell? ⟨g, i * 3 + 1, none⟩ = some (.slice va n vc) ∧ w1.cell? ⟨g, i * 3 + 2, none⟩ = some (.int .u32 kk) ∧ w1.frozen? ⟨g, i * 3 + 1, none⟩ = false ∧ w1.frozen? ⟨g, i * 3 + 2, none⟩ = false) ∧
        Hid (RS w ((w1.setCell ⟨g, i * 3 + 1, none⟩ (.slice a2 n2 c2)).setCell ⟨g, i * 3 + 2, none⟩ (.int .u32 k2)) (itA l k (i + 1)) a c)) := fun wr k i a c hR hi => by
    have hq := itA_get (l := l) (k := k) (i := i) hi
    rw [if_neg (by omega)] at hq
    obtain ⟨g, rfl, hlc, va, vc, hT, hat⟩ := hR.at_ hq
    rw [itA_len] at hlc
    obtain ⟨hcan, hnm⟩ := itN_can h hi k
    refine ⟨g, va, vc, _, _, rfl, hlc, (hat wr (Below.refl _ _)).1, (hat wr (Below.refl _ _)).2.1, ?_⟩
    refine (refPut_any l la lc (itN l k (exOf l i)) va vc (nmsOf l) hS (by have := h.len; omega) h.nd (fun q hq => ⟨h.can q hq, fun t ht => nms_mem hq ht⟩) hcan hnm wr (hE.below hR.bel) hT).mono ?_
    rintro e w1 ⟨hb, a2, n2, c2, rfl, hn2, ho⟩
    obtain ⟨k1, k2, k3⟩ := hat w1 hb
    refine ⟨a2, n2, c2, _, rfl, ⟨k1, k2, k3 _, k3 _⟩, ?_⟩
    have := hR.step hq hb _ a2 n2 c2 hn2 ho g rfl
    rw [itA_set hi] at this
    exact this
  have hqmH := Hid.intro hqm
  have hqsH := Hid.intro hqs
  have hfull := Hid.intro (itA_full h hc)
  have hd : (rowQ qs).length = l.length * 3 := by rw [rowQ_len, hql]
  have hturn : Hid (∀ k, itA l k l.length = itA l (k + 1) 0) := fun k => itA_turn
  have hstart : Hid (∀ w1 v2 c2 w2, Below w.heap.size w w1 → w2.ownsRow w1.heap.size 31 3 (.slice v2 l.length c2) l.length (rowQ qs) → (w1.alloc (.cells #[] 31)).grownBy w2 (some w1.heap.size) → RS w w2 (itA l 0 0) v2 c2) := fun w1 v2 c2 w2 hb ho hg => by
    have hb2 : Below w.heap.size w w2 := (hb.alloc hb.size (.cells #[] 31)).grown hg (by have := hb.size; simp; omega) (fun g e => by cases e; exact hb.size)
    refine ⟨hb2, qs, by rw [itA_zero]; exact hqsH.out, by rw [itA_len]; exact own_weaken ho hb.size, fun q hq => ⟨(hqmH.out q hq w2 hb2).1, fun g e => ?_⟩⟩
    subst e
    have := ho.lt g rfl
    exact (hqmH.out q hq w2 hb2).2 g (Nat.le_trans hb.size this.1)
  obtain ⟨i31, hi31, z0, z1, z2⟩ := info_parts info31
  have hl60 := h.len
  obtain ⟨n, hn⟩ : ∃ n, n = l.length := ⟨_, rfl⟩
  have hnH := Hid.intro hn
  rw [← hn] at h33 hput hd hstart hfull hl60 hsrc hturn ⊢
  have hown0 : ∀ W : World, (W.alloc (.cells #[] 31)).ownsRow W.heap.size 31 3 (.slice (some ⟨W.heap.size, 0, none⟩) 0 0) 0 [] := fun W => own_voidK W 31 3
  have hown0H := Hid.intro hown0
  clear hqm hqs hql h hS hc h0 hE hts hbe hn hown0 hsrc0
  go_enter Try.func17, Try.ntmps17
  go_wp2_with (first
    | (go_at_call 33; (with_reducible refine (h33.out).mono ?_); rintro e w1 ⟨ab, cb, rfl, hb1⟩)
    | (at_builtin; go_must (refine wpList_app rfl (.tmp 17) (.tmp 18) 22 rfl w1.heap.size 31 i31 _ 3 48 Try.underlying22 hi31 z0 z1 z2 rfl (by decide) (.slice (some ⟨w1.heap.size, 0, none⟩) 0 0) 0 [] rfl (hown0H.out w1) (.slice la n lc) n (rowQ qs) rfl (hsrc.out _ (hb1.out.alloc hb1.out.size _)) hd (rowQ_one _) (by unfold maxLen; omega) (by omega) (by simp) ?_; intro v2 w2 ho2 hg2 _; obtain ⟨a2, c2, rfl⟩ := own_slice ho2; rw [List.nil_append, Nat.zero_add] at ho2; have hR0 := Hid.intro (hstart.out w1 a2 c2 w2 hb1.out ho2 hg2); clear ho2 hg2)))
  all_goals first | omega | skip
  go_loopw [7] (fun v7 wr => ∃ k : Nat, k ≤ n ∧ v7 = .int .i64 (k : Int) ∧ Hid (RS w wr (itA l k 0) a2 c2)) (fun v7 _ => n - (intOf v7).toNat)
  case atStart => exact ⟨0, by omega, by first | rfl | go_num, hR0⟩
  case round =>
    clear hR0
    obtain ⟨k, hk, rfl, hR⟩ := hrel
    by_cases hkn : k < n
    · have hkn2 : (k : Int) < (n : Int) := by omega
      go_wp2
      all_goals first | omega | skip
      go_loopw [8] (fun v8 wr => ∃ i : Nat, i ≤ n ∧ v8 = .int .i64 (i : Int) ∧ Hid (RS w wr (itA l k i) a2 c2)) (fun v8 _ => n - (intOf v8).toNat)
      case atStart => exact ⟨0, by omega, by first | rfl | go_num, hR⟩
      case round =>
        clear hR
        obtain ⟨i, hi, rfl, hR⟩ := hrel
        by_cases hin : i < n
        · have hin2 : (i : Int) < (n : Int) := by omega
          have i0 : (0 : Int) ≤ (i : Int) := by omega
          obtain ⟨g, va, vc, m, kk, rfl, hlc2, d0, d1, hcall⟩ := hput.out wr k i a2 c2 hR.out hin
          have h19 := Hid.intro hcall
          clear hcall
          go_wp2_with (go_at_call 19; (with_reducible refine (h19.out).mono ?_); rintro e w3 ⟨a3, n3, c3, k3, rfl, ⟨e0, e1, e2, e3⟩, hR3⟩)
          all_goals first | omega | skip
          go_roundw
          case rel => exact ⟨i + 1, by omega, by go_num, hR3⟩
          case measure => simp [intOf]; omega
        · obtain rfl : i = n := by omega
          have hlt3 : ¬ ((i : Int) < (i : Int)) := by omega
          have hR2 : Hid (RS w wr (itA l (k + 1) 0) a2 c2) := by
            have := hR.out
            rw [hturn.out k] at this
            exact this
          clear hR
          go_wp2
          all_goals first | omega | skip
          exact ⟨⟨k + 1, by omega, by go_num, hR2⟩, by simp [intOf]; omega⟩
    · obtain rfl : k = n := by omega
      have hlt3 : ¬ ((k : Int) < (k : Int)) := by omega
      go_wp2
      all_goals first | omega | skip
      refine bodyPost_ret (by simp [results, Try.results17, go_sem]; try rfl) rfl ?_
      have h1 := hR.out
      rw [hfull.out] at h1
      exact ⟨a2, ⟨c2, rfl⟩, h1.eqIn, h1.bel⟩
set_option maxHeartbeats 16000000 in
theorem refSolve_bad {l : List Eqv} (h : SolvIn l) (hc : ∃ x, CycN l x) (la : Option Addr) (lc : Nat) (w : World) (hE : EqIn w la l) :
    Calls Try.prog 17 #[.slice la l.length lc] w fun e w' => ∃ m : Nat, e = .returned (.tuple #[.slice none 0 0, .int .i64 (m : Int), .int .i64 24]) ∧ FirstC l m ∧ Below w.heap.size w w' := by
  have hts : ∀ q ∈ l, q.2.terms.length ≤ 9000000 := fun q hq => by have := (h.held q hq).2.1; omega
  have h33 : Hid (Calls Try.prog 33 #[.slice la l.length lc] w fun e w' => ∃ g nb cb m, e = .returned (.slice (some ⟨g, 0, none⟩) nb cb) ∧ 0 < nb ∧ nb ≤ 1000 ∧ w'.cell? ⟨g, 0, none⟩ = some (.int .i64 ((m : Nat) : Int)) ∧ Hid (FirstC l m) ∧ Hid (Below w.heap.size w w')) := by
    refine (back_any l la lc (by have := h.len; omega) h.nd hts w hE).mono ?_
    rintro e w' ⟨hb, v, rfl, ho⟩
    obtain ⟨a, c, rfl⟩ := own_slice ho
    obtain ⟨x, i, hi, hcy, _⟩ := hc
    have hmem := (backL_mem i).2 ⟨hi, hcy⟩
    have hpos : 0 < (backL l).length := List.length_pos_of_mem hmem
    obtain ⟨g, rfl, _, hcell⟩ := own_addr ho hpos
    have h0 : (backL l)[0]? = some (backL l)[0] := List.getElem?_eq_getElem hpos
    have hle : (backL l).length ≤ 1000 := by
      have := backT_len l l.length
      have e : backT l l.length = backL l := rfl
      rw [e] at this
      have := h.len
      omega
    refine ⟨g, _, c, (backL l)[0], rfl, hpos, hle, hcell 0 _ (by unfold rowN; rw [List.getElem?_map, h0]; rfl), ?_, hb⟩
    obtain ⟨k1, k2⟩ := (backL_mem _).1 (List.mem_of_getElem? h0)
    refine ⟨k1, k2, fun j hj hjc => ?_⟩
    have hsort : (backL l).Pairwise (fun a b => a < b) := List.Pairwise.filter _ List.pairwise_lt_range
    obtain ⟨p, hp⟩ := List.getElem?_of_mem ((backL_mem j).2 ⟨hj, hjc⟩)
    obtain ⟨hpl, rfl⟩ := List.getElem?_eq_some_iff.1 hp
    rcases Nat.eq_zero_or_pos p with h2 | h2
    · subst h2; exact Nat.le_refl _
    · exact Nat.le_of_lt ((List.pairwise_iff_getElem.1 hsort) 0 p hpos hpl h2)
  obtain ⟨n, hn⟩ : ∃ n, n = l.length := ⟨_, rfl⟩
  rw [← hn] at h33 ⊢
  clear hn hts hE hc h
  go_enter Try.func17, Try.ntmps17
  go_upto_region 3 with (go_at_call 33; (with_reducible refine (h33.out).mono ?_); rintro e w1 ⟨g, nb, cb, m, rfl, hpos, hle, hc0, hF, hb1⟩)
  all_goals first | omega | skip
  go_quiet (fail)
  have hb2 : Hid (Below w.heap.size w (w1.drewN nq)) := below_drewN hb1.out nq
  go_wp2
  all_goals first | omega | skip
  refine bodyPost_ret (by simp [results, Try.results17, go_sem]; try rfl) rfl ?_
  exact ⟨m, rfl, hF.out, hb2.out⟩
end Go.Proofs.Ytebbbefknfldoaa
namespace Go.Proofs.Ytebbbefknfldoaa
open Go.ChangeShapes Go.WideShapes Go.ChangeAt Go.RowKit Go.Sort
set_option linter.unusedVariables false
set_option linter.unusedSimpArgs false
set_option maxRecDepth 100000
theorem lt_nlt (x y : List UInt8) : (x < y) ↔ nlt x y = true := by
  have := bytesLess_eq x y
  unfold nlt
  rw [this]
  simp
theorem le_nlt (x y : List UInt8) : (x ≤ y) ↔ nlt y x = false := by
  show ¬ (y < x) ↔ _
  rw [lt_nlt]
  simp
theorem nlt_le_trans {x y z : List UInt8} (h1 : nlt y x = false) (h2 : nlt z y = false) : nlt z x = false := by
  rcases nlt_tri x y with h | h | h
  · rcases nlt_tri y z with g | g | g
    · exact nlt_asymm (nlt_trans h g)
    · subst g; exact nlt_asymm h
    · rw [g] at h2; cases h2
  · subst h; exact h2
  · rw [h] at h1; cases h1
def posD (out : List (List UInt8)) (s : List UInt8) : Nat → Nat
  | 0 => 0
  | k + 1 => match out[k]? with
    | some x => if nlt s x = true then posD out s k else k + 1
    | none => k + 1
def putD (out : List (List UInt8)) (k : Nat) (s : List UInt8) : List (List UInt8) := out.take k ++ s :: out.drop k
def insD (out : List (List UInt8)) (s : List UInt8) : List (List UInt8) := if s ∈ out then out else putD out (posD out s out.length) s
def srtD (l : List (List UInt8)) : List (List UInt8) := l.foldl insD []
def Up (l : List (List UInt8)) : Prop := l.Pairwise fun x y => nlt x y = true
theorem posD_le (out : List (List UInt8)) (s : List UInt8) : ∀ k, posD out s k ≤ k := by
  intro k
  induction k with
  | zero => simp [posD]
  | succ k ih =>
    unfold posD
    split
    · split
      · omega
      · omega
    · omega
theorem posD_above (out : List (List UInt8)) (s : List UInt8) : ∀ k, ∀ i x, posD out s k ≤ i → i < k → out[i]? = some x → nlt s x = true := by
  intro k
  induction k with
  | zero => intro i x h1 h2; omega
  | succ k ih =>
    intro i x h1 h2 hx
    unfold posD at h1
    split at h1
    · rename_i y hy
      split at h1
      · rename_i hn
        rcases Nat.lt_or_ge i k with h | h
        · exact ih i x h1 h hx
        · obtain rfl : i = k := by omega
          rw [hx] at hy
          cases hy
          exact hn
      · omega
    · omega
theorem posD_at (out : List (List UInt8)) (s : List UInt8) : ∀ k, k ≤ out.length → posD out s k = 0 ∨ ∃ x, out[posD out s k - 1]? = some x ∧ nlt s x = false ∧ 0 < posD out s k := by
  intro k
  induction k with
  | zero => intro _; exact .inl rfl
  | succ k ih =>
    intro hk
    have hx : out[k]? = some (out[k]'(by omega)) := List.getElem?_eq_getElem _
    unfold posD
    rw [hx]
    simp only
    by_cases hn : nlt s (out[k]'(by omega)) = true
    · rw [if_pos hn]; exact ih (by omega)
    · rw [if_neg hn]; exact .inr ⟨_, hx, by simpa using hn, by omega⟩
theorem up_get {l : List (List UInt8)} (h : Up l) {i j : Nat} (hij : i < j) {x y : List UInt8} (hx : l[i]? = some x) (hy : l[j]? = some y) : nlt x y = true := by
  obtain ⟨hi, rfl⟩ := List.getElem?_eq_some_iff.1 hx
  obtain ⟨hj, rfl⟩ := List.getElem?_eq_some_iff.1 hy
  exact (List.pairwise_iff_getElem.1 h) i j hi hj hij
theorem insD_up {out : List (List UInt8)} {s : List UInt8} (h : Up out) : Up (insD out s) := by
  unfold insD
  split
  · exact h
  · rename_i hm
    unfold putD
    generalize hp : posD out s out.length = p
    have hple : p ≤ out.length := by rw [← hp]; exact posD_le _ _ _
    have hlo : ∀ x ∈ out.take p, nlt x s = true := fun x hx => by
      obtain ⟨i, hi⟩ := List.getElem?_of_mem hx
      have hil := (List.getElem?_eq_some_iff.1 hi).1
      simp at hil
      rw [List.getElem?_take_of_lt (by omega)] at hi
      rcases posD_at out s out.length (Nat.le_refl _) with h0 | ⟨y, hy, hn, hpos⟩
      · rw [hp] at h0; omega
      · rw [hp] at hy hpos
        have hle : nlt s x = false := by
          rcases Nat.lt_or_ge i (p - 1) with h1 | h1
          · exact nlt_le_trans (nlt_asymm (up_get h h1 hi hy)) hn
          · have e : i = p - 1 := by omega
            rw [e, hy] at hi
            cases hi
            exact hn
        rcases nlt_tri x s with h2 | h2 | h2
        · exact h2
        · exact absurd (by rw [← h2]; exact List.mem_of_getElem? hi) hm
        · rw [h2] at hle; cases hle
    have hhi : ∀ x ∈ out.drop p, nlt s x = true := fun x hx => by
      obtain ⟨i, hi⟩ := List.getElem?_of_mem hx
      rw [List.getElem?_drop] at hi
      exact posD_above out s out.length (p + i) x (by rw [hp]; omega) (List.getElem?_eq_some_iff.1 hi).1 hi
    refine List.pairwise_append.2 ⟨h.sublist (List.take_sublist _ _), List.pairwise_cons.2 ⟨hhi, h.sublist (List.drop_sublist _ _)⟩, fun x hx y hy => ?_⟩
    rcases List.mem_cons.1 hy with rfl | hy
    · exact hlo x hx
    · exact nlt_trans (hlo x hx) (hhi y hy)
theorem insD_mem {out : List (List UInt8)} {s t : List UInt8} : t ∈ insD out s ↔ t ∈ out ∨ t = s := by
  unfold insD
  split
  · rename_i h
    constructor
    · exact .inl
    · rintro (h1 | rfl)
      · exact h1
      · exact h
  · unfold putD
    rw [List.mem_append, List.mem_cons]
    constructor
    · rintro (h | h | h)
      · exact .inl (List.mem_of_mem_take h)
      · exact .inr h
      · exact .inl (List.mem_of_mem_drop h)
    · rintro (h | h)
      · rw [← List.take_append_drop (posD out s out.length) out] at h
        rcases List.mem_append.1 h with h | h
        · exact .inl h
        · exact .inr (.inr h)
      · exact .inr (.inl h)
theorem insD_len (out : List (List UInt8)) (s : List UInt8) : (insD out s).length = out.length + if s ∈ out then 0 else 1 := by
  unfold insD
  split
  · rfl
  · have := posD_le out s out.length
    unfold putD
    simp
    omega
theorem srtD_snoc (l : List (List UInt8)) (s : List UInt8) : srtD (l ++ [s]) = insD (srtD l) s := by
  unfold srtD
  rw [List.foldl_append]
  rfl
theorem srtD_facts (l : List (List UInt8)) : Up (srtD l) ∧ (∀ t, t ∈ srtD l ↔ t ∈ l) ∧ (srtD l).length ≤ l.length ∧ ((srtD l).length = l.length ↔ l.Nodup) := by
  induction hn : l.length generalizing l with
  | zero =>
    obtain rfl := List.length_eq_zero_iff.1 hn
    exact ⟨List.Pairwise.nil, fun t => Iff.rfl, Nat.le_refl _, by simp [srtD]⟩
  | succ n ih =>
    obtain ⟨r, s, rfl⟩ : ∃ r s, l = r ++ [s] := by
      have h0 : l ≠ [] := by rintro rfl; cases hn
      exact ⟨l.dropLast, l.getLast h0, (List.dropLast_concat_getLast h0).symm⟩
    have hr : r.length = n := by simpa using hn
    obtain ⟨h1, h2, h3, h4⟩ := ih r hr
    rw [srtD_snoc]
    refine ⟨insD_up h1, fun t => ?_, ?_, ?_⟩
    · rw [insD_mem, h2, List.mem_append, List.mem_singleton]
    · rw [insD_len]; split <;> omega
    · rw [insD_len, List.nodup_append]
      by_cases hm : s ∈ srtD r
      · rw [if_pos hm]
        constructor
        · intro h; omega
        · rintro ⟨_, _, hd⟩
          exact absurd rfl (hd s ((h2 s).1 hm) s (by simp))
      · rw [if_neg hm]
        constructor
        · intro h
          refine ⟨h4.1 (by omega), by simp, fun a ha b hb => ?_⟩
          rw [List.mem_singleton] at hb
          subst hb
          rintro rfl
          exact hm ((h2 a).2 ha)
        · rintro ⟨hd, _, _⟩
          have := h4.2 hd
          omega
structure NmS (w0 : World) (ga : Option Addr) (gc : Nat) (ns : List (List UInt8)) (n : Nat) (wr : World) : Prop where
  bel : Below w0.heap.size w0 wr
  own : wr.ownsRow w0.heap.size 9 1 (.slice ga n gc) n (ns.map encStr)
theorem NmS.len {w0 : World} {ga : Option Addr} {gc : Nat} {ns : List (List UInt8)} {n : Nat} {wr : World} (h : NmS w0 ga gc ns n wr) : n = ns.length := by
  have := h.own.1
  simp at this
  omega
theorem NmS.below {w0 : World} {ga : Option Addr} {gc : Nat} {ns : List (List UInt8)} {n : Nat} {wr w' : World} (h : NmS w0 ga gc ns n wr) (hb : Below wr.heap.size wr w') : NmS w0 ga gc ns n w' := ⟨h.bel.trans (hb.mono h.bel.size), own_keptR h.own hb⟩
theorem NmS.push {w0 : World} {ga : Option Addr} {gc : Nat} {ns : List (List UInt8)} {n : Nat} {wr w3 : World} (h : NmS w0 ga gc ns n wr) {s : List UInt8} {v' : Value} (ho : w3.ownsRow w0.heap.size 9 1 v' (n + 1) (ns.map encStr ++ [encStr s])) (hg : wr.grownBy w3 (Value.slice ga n gc).ownBlock) : ∃ a' c', v' = .slice a' (n + 1) c' ∧ NmS w0 a' c' (ns ++ [s]) (n + 1) w3 := by
  obtain ⟨a', c', rfl⟩ := own_slice ho
  exact ⟨a', c', rfl, h.bel.grown hg h.bel.size (fun j hj => (h.own.lt _ hj).1), by rw [List.map_append]; exact ho⟩
theorem nms_set {w0 : World} {ga : Option Addr} {gc n : Nat} {ns : List (List UInt8)} {wr : World} (h : NmS w0 ga gc ns n wr) {i : Nat} (hi : i < n) : ∃ g, ga = some ⟨g, 0, none⟩ ∧ w0.heap.size ≤ g ∧ g < wr.heap.size ∧ (∀ j x, ns[j]? = some x → wr.cell? ⟨g, j, none⟩ = some (.string (str x))) ∧ wr.frozen? ⟨g, i, none⟩ = false ∧ ∀ s, NmS w0 ga gc (ns.set i s) n (wr.setCell ⟨g, i, none⟩ (.string (str s))) := by
  have hl := h.len
  rcases h.own.2 with ⟨hv, h0⟩ | ⟨g, cap, cur, hv, hlo, hg, h1, h2, h3, h4⟩
  · omega
  · injection hv with hv1 hv2 hv3
    subst hv1
    have hglt := (Array.getElem?_eq_some_iff.1 hg).1
    have hc : ∀ j x, ns[j]? = some x → wr.cell? ⟨g, j, none⟩ = some (.string (str x)) := fun j x hx => by
      rw [h.own.cellAt j (by have := (List.getElem?_eq_some_iff.1 hx).1; omega), List.getElem?_map, hx]
      rfl
    refine ⟨g, rfl, hlo, hglt, hc, by simp [World.frozen?, hg], fun s => ?_⟩
    obtain ⟨r1, r2⟩ := row_set hg i (.string (str s))
    refine ⟨h.bel.grown r2 h.bel.size (fun j hj => by cases hj; exact hlo), by simp; omega, .inr ⟨g, cap, _, by rw [hv3], hlo, r1, h1, h2, by simp [h3], ?_⟩⟩
    rw [Array.toList_setIfInBounds, List.take_set, h4, List.map_set]
    rfl
theorem putD_end (out : List (List UInt8)) (s : List UInt8) : putD out out.length s = out ++ [s] := by simp [putD]
theorem putD_set (out : List (List UInt8)) (k : Nat) (v s : List UInt8) (hk : k ≤ out.length) : (putD out k v).set k s = putD out k s := by
  unfold putD
  rw [List.set_append_right _ _ (by simp; omega)]
  have : k - (out.take k).length = 0 := by simp; omega
  rw [this]
  rfl
theorem putD_low (out : List (List UInt8)) (k : Nat) (v : List UInt8) (j : Nat) (hj : j < k) (hk : k ≤ out.length) : (putD out k v)[j]? = out[j]? := by
  unfold putD
  rw [List.getElem?_append_left (by simp; omega), List.getElem?_take_of_lt hj]
theorem putD_shift (out : List (List UInt8)) (k : Nat) (x : List UInt8) (hx : out[k]? = some x) : putD out (k + 1) x = putD out k x := by
  have hk := (List.getElem?_eq_some_iff.1 hx).1
  unfold putD
  rw [List.take_add_one, hx, List.append_assoc]
  congr 1
  rw [List.drop_eq_getElem_cons hk]
  have : out[k] = x := by
    rw [List.getElem?_eq_getElem hk] at hx
    exact Option.some.inj hx
  rw [this]
  rfl
noncomputable def backN (l : List Eqv) : List (List UInt8) := (backL l).map (nmOf l)
theorem backN_len (l : List Eqv) : (backN l).length = (backL l).length := by simp [backN]
theorem backL_nodup (l : List Eqv) : (backL l).Nodup := List.Pairwise.filter _ List.nodup_range
theorem backN_nodup {l : List Eqv} (hnd : (l.map (·.1)).Nodup) : (backN l).Nodup := by
  refine List.pairwise_map.2 ?_
  have := backL_nodup l
  refine List.Pairwise.imp_of_mem (fun {a b} ha hb hab e => hab ?_) this
  exact nm_inj hnd ((backL_mem a).1 ha).1 ((backL_mem b).1 hb).1 e
theorem backN_mem {l : List Eqv} (x : List UInt8) : x ∈ backN l ↔ CycN l x := by
  unfold backN
  rw [List.mem_map]
  constructor
  · rintro ⟨i, hi, rfl⟩
    obtain ⟨h1, h2⟩ := (backL_mem i).1 hi
    exact ⟨i, h1, h2, rfl⟩
  · rintro ⟨i, h1, h2, rfl⟩
    exact ⟨i, (backL_mem i).2 ⟨h1, h2⟩, rfl⟩
theorem up_le {l : List (List UInt8)} (h : Up l) : l.Pairwise (fun x y => x ≤ y) ∧ l.Nodup :=
  ⟨h.imp fun hab => (le_nlt _ _).2 (nlt_asymm hab), List.nodup_iff_pairwise_ne.2 (h.imp fun {a b} hab e => by subst e; rw [nlt_irrefl] at hab; cases hab)⟩
set_option maxHeartbeats 16000000 in
theorem refCycle_any (l : List Eqv) (la : Option Addr) (lc : Nat) (hl : l.length ≤ 1000) (hnd : (l.map (·.1)).Nodup) (hts : ∀ q ∈ l, q.2.terms.length ≤ 9000000) (w : World) (hE : EqIn w la l) :
    Calls Try.prog 20 #[.slice la l.length lc] w fun e w' => Below w.heap.size w w' ∧ ∃ a c, e = .returned (.slice a (srtD (backN l)).length c) ∧ StIn w' a (srtD (backN l)) ∧ (srtD (backN l)).Pairwise (fun x y => x ≤ y) ∧ (srtD (backN l)).Nodup ∧ ∀ x, x ∈ srtD (backN l) ↔ CycN l x := by
  obtain ⟨f1, f2, _, _⟩ := srtD_facts (backN l)
  have hend : Hid ((srtD (backN l)).Pairwise (fun x y => x ≤ y) ∧ (srtD (backN l)).Nodup ∧ ∀ x, x ∈ srtD (backN l) ↔ CycN l x) := ⟨(up_le f1).1, (up_le f1).2, fun x => by rw [f2, backN_mem]⟩
  have hnb : (backL l).length ≤ 1000 := by
    have := backT_len l l.length
    have e : backT l l.length = backL l := rfl
    rw [e] at this
    omega
  have h33 : Hid (Calls Try.prog 33 #[.slice la l.length lc] w fun e w1 => ∃ ab cb, e = .returned (.slice ab (backL l).length cb) ∧ Hid (Below w.heap.size w w1) ∧ Hid (∀ i, i < (backL l).length → ∃ (g j : Nat), ab = some ⟨g, 0, none⟩ ∧ g < w1.heap.size ∧ w1.cell? ⟨g, i, none⟩ = some (.int .i64 (j : Int)) ∧ (backL l)[i]? = some j)) := by
    refine (back_any l la lc hl hnd hts w hE).mono ?_
    rintro e w1 ⟨hb, v, rfl, ho⟩
    obtain ⟨a, c, rfl⟩ := own_slice ho
    refine ⟨a, c, rfl, hb, fun i hi => ?_⟩
    obtain ⟨g, rfl, _, hc⟩ := own_addr ho (by omega)
    have h1 : (backL l)[i]? = some (backL l)[i] := List.getElem?_eq_getElem hi
    refine ⟨g, (backL l)[i], rfl, (ho.lt g rfl).2, hc i _ ?_, h1⟩
    unfold rowN
    rw [List.getElem?_map, h1]
    rfl
  have hname : Hid (∀ i j, (backL l)[i]? = some j → (backN l)[i]? = some (nmOf l j) ∧ j < l.length ∧ ∃ gl ol, la = some ⟨gl, ol, none⟩ ∧ gl < w.heap.size ∧ w.cell? ⟨gl, ol + j * 3, none⟩ = some (.string (str (nmOf l j)))) := fun i j hj => by
    have hm := ((backL_mem j).1 (List.mem_of_getElem? hj)).1
    refine ⟨by unfold backN; rw [List.getElem?_map, hj]; rfl, hm, ?_⟩
    have hq : l[j]? = some l[j] := List.getElem?_eq_getElem hm
    obtain ⟨gl, ol, e1, e2, _, _, k0, _⟩ := eqIn_at hE hq
    exact ⟨gl, ol, e1, e2, by rw [nmOf_get hq]; exact k0⟩
  have hstepH : Hid (∀ i x, (backN l)[i]? = some x → srtD ((backN l).take (i + 1)) = putD (srtD ((backN l).take i)) (posD (srtD ((backN l).take i)) x i) x ∧ (srtD ((backN l).take i)).length = i) := fun i x hx => by
    have hlt := (List.getElem?_eq_some_iff.1 hx).1
    have hn1 : ((backN l).take i).Nodup := (backN_nodup hnd).sublist (List.take_sublist _ _)
    have hn2 : ((backN l).take (i + 1)).Nodup := (backN_nodup hnd).sublist (List.take_sublist _ _)
    obtain ⟨_, g2, _, g4⟩ := srtD_facts ((backN l).take i)
    have hlen : (srtD ((backN l).take i)).length = i := by rw [g4.2 hn1, List.length_take]; omega
    refine ⟨?_, hlen⟩
    rw [List.take_add_one, hx] at hn2 ⊢
    rw [show (some x).toList = [x] from rfl] at hn2 ⊢
    rw [srtD_snoc]
    unfold insD
    rw [if_neg (fun hm => ?_), hlen]
    obtain ⟨_, _, h5⟩ := List.nodup_append.1 hn2
    exact h5 x ((g2 x).1 hm) x (by simp) rfl
  have hlast : Hid ((srtD ((backN l).take (backL l).length)) = srtD (backN l)) := by
    show _ = _
    rw [← backN_len, List.take_length]
  obtain ⟨i0, hi9, hz0, hz1, hz2⟩ := info_parts info9
  have hlenN := Hid.intro (backN_len l)
  have hnbx : ∀ i, i < (backL l).length → i < (backN l).length := fun i hi => by rw [backN_len]; exact hi
  have hnbxH := Hid.intro hnbx
  obtain ⟨n0, hn0⟩ : ∃ n0, n0 = (backL l).length := ⟨_, rfl⟩
  have hn0H := Hid.intro hn0
  rw [← hn0] at hnb h33 hlast
  obtain ⟨n, hn⟩ : ∃ n, n = l.length := ⟨_, rfl⟩
  have hnH := Hid.intro hn
  rw [← hn] at hl h33 ⊢
  clear f1 f2 hts hnd hE hn0 hn hnbx
  go_enter Try.func20, Try.ntmps20
  go_wp2_with (go_at_call 33; (with_reducible refine (h33.out).mono ?_); rintro e w1 ⟨ab, cb, rfl, hb1, hbk⟩)
  all_goals first | omega | skip
  have hN0 : Hid (NmS w1 none 0 [] 0 w1) := ⟨Below.refl _ _, World.ownsRow_nil _ _ _ _⟩
  go_loopw [3, 5] (fun v3 v5 wr => ∃ (i : Nat) (ha : Option Addr) (hc : Nat), i ≤ n0 ∧ v3 = .slice ha i hc ∧ v5 = .int .i64 (i : Int) ∧ Hid (NmS w1 ha hc (srtD ((backN l).take i)) i wr)) (fun v3 v5 wr => n0 - (intOf v5).toNat)
  case atStart => exact ⟨0, none, 0, by omega, rfl, by first | rfl | go_num, by show NmS _ _ _ _ _ _; simpa [srtD] using hN0.out⟩
  case round =>
    clear hN0
    obtain ⟨i, ha, hc, hi, rfl, rfl, hS⟩ := hrel
    by_cases hlt : i < n0
    · obtain ⟨gb, j, rfl, hgb, hbc, hbj⟩ := hbk.out i hlt
      obtain ⟨hNx, hjl, gl, ol, rfl, hgl, hlc⟩ := hname.out i j hbj
      have hjn : j < n := by rw [hnH.out]; exact hjl
      have hjn2 : (j : Int) < (n : Int) := by omega
      have hj0 : (0 : Int) ≤ (j : Int) := by omega
      have hlt2 : (i : Int) < (n0 : Int) := by omega
      have z0 : (0 : Int) ≤ (i : Int) := by omega
      have c0 := (hS.out.bel.cell (p := ⟨gb, i, none⟩) hgb).trans hbc
      have hbw : Hid (Below w.heap.size w wr) := hb1.out.trans (hS.out.bel.mono hb1.out.size)
      have c1 := (hbw.out.cell (p := ⟨gl, ol + j * 3, none⟩) hgl).trans hlc
      obtain ⟨hst, hkl0⟩ := hstepH.out i _ hNx
      have hstep := Hid.intro hst
      have hkl := Hid.intro hkl0
      generalize nmOf l j = x at *
      have hS2 := Hid.intro (hS.out.below (below_alloc wr (.cells #[.string (str x)] 9)))
      have hsrc : Hid (Src (wr.alloc (.cells #[.string (str x)] 9)) (.slice (some ⟨wr.heap.size, 0, none⟩) 1 1) 1 [encStr x]) := .inr ⟨_, _, rfl, cells_new wr #[.string (str x)] 9⟩
      have hbase : w1.heap.size ≤ (wr.alloc (.cells #[.string (str x)] 9)).heap.size := hS2.out.bel.size
      clear hst hkl0 hNx hbj hjl hlc hgl hbc hgb
      generalize srtD ((backN l).take i) = out at *
      go_wp2_with (at_builtin; go_must (refine wpList_app rfl (.tmp 26) (.tmp 28) 33 rfl w1.heap.size 9 i0 _ 1 16 Try.underlying33 hi9 hz0 hz1 hz2 rfl (by decide) (.slice ha i hc) i _ rfl hS2.out.own (.slice (some ⟨_, 0, none⟩) 1 1) 1 [encStr x] rfl hsrc.out rfl (by simp [Value.oneCell', encStr]) (by unfold maxLen; omega) (by omega) hbase ?_; intro v' w5 ho hg hw; obtain ⟨a', c', rfl, hN⟩ := hS2.out.push ho hg; replace hN := Hid.intro hN; clear ho hg hw))
      all_goals first | omega | skip
      clear c1 hS2 hsrc hbase c0
      have hP0 : Hid (NmS w1 a' c' (putD out i x) (i + 1) w5) := by
        have := hN.out
        rw [← putD_end, hkl.out] at this
        exact this
      clear hN
      go_loopw [6] (fun v6 wr => ∃ (kk : Nat) (v : List UInt8), kk ≤ i ∧ v6 = .int .i64 (kk : Int) ∧ Hid (posD out x i = posD out x kk) ∧ Hid (NmS w1 a' c' (putD out kk v) (i + 1) wr)) (fun v6 _ => (intOf v6).toNat)
      case atStart => exact ⟨i, x, by omega, rfl, Hid.intro rfl, hP0⟩
      case round =>
        clear hP0
        obtain ⟨kk, v, hkk, rfl, hpos, hP⟩ := hrel
        obtain ⟨q, hq, hqlo, hqlt, hqc, hqf, hqs⟩ := nms_set hP.out (i := kk) (by omega)
        subst hq
        have hsz : (putD out kk v).length = i + 1 := hP.out.len.symm
        obtain ⟨vk, hvk⟩ : ∃ vk, (putD out kk v)[kk]? = some vk := ⟨_, List.getElem?_eq_getElem (by omega)⟩
        have ck := hqc kk vk hvk
        have hkk2 : (kk : Int) < ((i + 1 : Nat) : Int) := by omega
        have kz : (0 : Int) ≤ (kk : Int) := by omega
        have hfinal : Hid (posD out x kk = kk → NmS w1 (some ⟨q, 0, none⟩) c' (srtD ((backN l).take (i + 1))) (i + 1) (wr.setCell ⟨q, kk, none⟩ (.string (str x)))) := fun hend => by
          have h9 := hqs x
          have e9 : posD out x i = kk := hpos.out.trans hend
          rw [putD_set out kk v x (by have := hkl.out; omega)] at h9
          rw [hstep.out, e9]
          exact h9
        by_cases h0 : kk = 0
        · have hend2 : Hid (posD out x kk = kk) := by subst h0; exact Hid.intro rfl
          have hfin2 := Hid.intro (hfinal.out hend2.out)
          subst h0
          clear hfinal hend2 hqs hqc hvk hsz hpos hP hqlo
          go_wp2
          all_goals first | omega | skip
          exact ⟨⟨i + 1, _, _, by omega, rfl, by go_num, hfin2⟩, by simp [intOf]; omega⟩
        · obtain ⟨k1, hk1⟩ : ∃ k1, kk = k1 + 1 := ⟨kk - 1, by omega⟩
          obtain ⟨y, hy⟩ : ∃ y, out[k1]? = some y := ⟨_, List.getElem?_eq_getElem (by have := hkl.out; omega)⟩
          have cy := hqc k1 y (by rw [putD_low out kk v k1 (by omega) (by have := hkl.out; omega)]; exact hy)
          have hyH := Hid.intro hy
          have q2 : (kk : Int) - 1 = (k1 : Int) := by omega
          have q1 : IntKind.i64.wrap ((kk : Int) - 1) = (k1 : Int) := by rw [q2, IntKind.wrap_i64]; omega
          have q3 : wrap64 ((kk : Int) - 1) = (k1 : Int) := by rw [q2]; unfold wrap64; omega
          have p1 : decide (0 < kk) = true := by simp; omega
          have z1 : (k1 : Int) < ((i + 1 : Nat) : Int) := by omega
          have z2 : (0 : Int) ≤ (k1 : Int) := by omega
          have hk1H := Hid.intro hk1
          by_cases hn : nlt x y = true
          · have e1 : Op.bytesLess (str y).toList (str x).toList = false := by rw [str_toList, str_toList]; exact nlt_asymm hn
            have e2 : ((str y).toList == (str x).toList) = false := by rw [str_toList, str_toList]; exact beq_false_of_ne fun e => by rw [e, nlt_irrefl] at hn; cases hn
            have hposn : Hid (posD out x i = posD out x k1) := by
              show _ = _
              rw [hpos.out, hk1H.out]
              show posD out x (k1 + 1) = _
              rw [posD, hyH.out]
              simp only
              rw [if_pos hn]
            have hnext : Hid (NmS w1 (some ⟨q, 0, none⟩) c' (putD out k1 y) (i + 1) (wr.setCell ⟨q, kk, none⟩ (.string (str y)))) := by
              have h9 := hqs y
              rw [putD_set out kk v y (by have := hkl.out; omega), hk1H.out, putD_shift out k1 y hyH.out] at h9
              rw [hk1H.out]
              exact h9
            clear hfinal hqs hqc hvk hsz hpos hP hqlo hn hy h0 hk1
            go_wp2
            all_goals first | omega | skip
            exact ⟨⟨k1, y, by have := hk1H.out; omega, rfl, hposn, hnext⟩, by have := hk1H.out; simp [intOf]; omega⟩
          · have hnf : nlt x y = false := by simpa using hn
            have hend2 : Hid (posD out x kk = kk) := by
              show _ = _
              rw [hk1H.out]
              show posD out x (k1 + 1) = _
              rw [posD, hyH.out]
              simp only
              rw [if_neg hn]
            have hfin2 := Hid.intro (hfinal.out hend2.out)
            rcases nlt_tri y x with h7 | h7 | h7
            · have e1 : Op.bytesLess (str y).toList (str x).toList = true := by rw [str_toList, str_toList]; exact h7
              clear hfinal hend2 hqs hqc hvk hsz hpos hP hqlo hn hnf hy h0 hk1 h7
              go_wp2
              all_goals first | omega | skip
              exact ⟨⟨i + 1, _, _, by omega, rfl, by go_num, hfin2⟩, by simp [intOf]; omega⟩
            · have e2 : ((str y).toList == (str x).toList) = true := by rw [h7]; simp
              have e1 : Op.bytesLess (str y).toList (str x).toList = false := by rw [str_toList, str_toList, h7]; exact nlt_irrefl _
              clear hfinal hend2 hqs hqc hvk hsz hpos hP hqlo hn hnf hy h0 hk1 h7
              go_wp2
              all_goals first | omega | skip
              exact ⟨⟨i + 1, _, _, by omega, rfl, by go_num, hfin2⟩, by simp [intOf]; omega⟩
            · rw [hnf] at h7; cases h7
    · have hin : i = n0 := by omega
      subst hin
      have hlt3 : ¬ ((i : Int) < (i : Int)) := by omega
      go_wp2
      all_goals first | omega | skip
      go_ret
      have h5 := hS.out
      rw [hlast.out] at h5
      have e9 := h5.len
      rw [← e9]
      have h6 := h5.own
      rw [e9] at h6
      refine ⟨hb1.out.trans (h5.bel.mono hb1.out.size), ?_⟩
      exact ⟨ha, ⟨hc, rfl⟩, (own_stIn h6).1, hend.out⟩
end Go.Proofs.Ytebbbefknfldoaa
