/- How a Lin that came in is opened: its terms lie in memory; what the bound on its bulk gives. -/
import Derived.Test.YtijdjljnppkhmabDoorConcat
import Derived.Deep.SlicePairs
import Derived.ChangeArms
namespace Go.Proofs.YtijdjljnppkhmabDoor
open Go.ChangeShapes Go.WideShapes Go.ChangeAt Go.RowKit
set_option linter.unusedVariables false
set_option maxRecDepth 100000

theorem cells25 : Tryd.prog.cellsOf 25 = 2 := by kernel_rfl
theorem cells22 : Tryd.prog.cellsOf 22 = 1 := by kernel_rfl
theorem cells56 : Tryd.prog.cellsOf 30 = 2 := by kernel_rfl
theorem cells9 : Tryd.prog.cellsOf 9 = 1 := by kernel_rfl
theorem cells23 : Tryd.prog.cellsOf 23 = 1 := by kernel_rfl

theorem bulk_pos {H : Type} (d : DataW H) : 1 ≤ Rows.uptoBulk d := by
  cases d with
  | lit l => cases l <;> simp [Rows.uptoBulk]
  | nil => simp [Rows.uptoBulk]
  | ptr d => simp [Rows.uptoBulk]
  | slice elems spare => simp [Rows.uptoBulk]
  | agg parts => simp [Rows.uptoBulk]
  | iface t d => simp [Rows.uptoBulk]
  | map entries => simp [Rows.uptoBulk]
  | held h => simp [Rows.uptoBulk]
theorem bulk_all {H : Type} (l : List (DataW H)) : l.length ≤ Rows.uptoBulkAll l := by
  induction l with
  | nil => simp [Rows.uptoBulkAll]
  | cons x r ih =>
    have := bulk_pos x
    simp only [Rows.uptoBulkAll, List.length_cons]
    omega
theorem bulk_mem {H : Type} (l : List (DataW H)) (d : DataW H) (h : d ∈ l) : Rows.uptoBulk d ≤ Rows.uptoBulkAll l := by
  induction l with
  | nil => cases h
  | cons x r ih =>
    simp only [Rows.uptoBulkAll]
    rcases List.mem_cons.1 h with rfl | h
    · omega
    · have := ih h
      omega

def nameV : Value → List UInt8
  | .string s => s.data.toList
  | _ => []

/-- what a Lin that came in is -/
structure LinIn (W : World) (v : Value) (N : Nat) (a : Option Addr) (c : Nat) (ts : List Tm) (k : Int) : Prop where
  is : v = linV (.slice a ts.length c) k
  held : Held W a c ts
  lo : 0 ≤ k
  hi : k < 4294967296
  few : ts.length ≤ N
  each : ∀ t ∈ ts, 0 ≤ t.coef ∧ t.coef < 4294967296 ∧ t.name.length ≤ N
  cap : ts.length ≤ c
  most : c ≤ maxLen

theorem open_lin {H : Type} {enc : TypeId × Value → H} {W : World} {base : Nat} {v : Value} {d : DataW H} {p : List MemPlace}
    (hval : Value.okWide Tryd.prog W .any base 25 v) (h : DataW.Trod enc Tryd.prog W 0 (fun _ => true) true 25 v d p) :
    ∃ a c ts k, LinIn W v (Rows.uptoBulk d) a c ts k := by
  obtain ⟨cs, rfl, hcs⟩ := okWide_struct Tryd.underlying25 hval
  rw [cells25] at hcs
  obtain ⟨fuel, hf⟩ := h
  have hlt : ∀ x ∈ p, x.block < W.heap.size := DataW.trod_lt fuel _ _ _ hf
  obtain ⟨y0, y1, n, hx, hl, t0, t1⟩ := trod_struct2 Tryd.underlying25 hf
  obtain ⟨cs⟩ := cs
  match cs, hcs with
  | [c0, c1], _ =>
    simp only [Value.cells, cells22, cells23, List.drop, List.take] at t0 t1
    obtain ⟨k, hk, rfl, wk⟩ := DataW.trod_int Tryd.underlying23 t1
    simp only [List.cons.injEq, and_true] at hk
    subst hk
    have hb := bounds_u32 wk
    simp only [Prod.mk.injEq] at hx
    obtain ⟨rfl, rfl⟩ := hx
    rcases Deep.open_slice_pairs Tryd.underlying22 Tryd.underlying30 cells56 rfl rfl cells9 cells23 t0 with ⟨hc, rfl⟩ | ⟨a, len, cap, m, n', V0, V1, D0, D1, P0, P1, hc, _, hlc, hcm, hm, rfl, hall⟩
    · simp only [List.cons.injEq, and_true] at hc
      subst hc
      exact ⟨none, 0, [], k, ⟨rfl, ⟨.inl rfl, fun _ => ⟨rfl, rfl⟩⟩, hb.1, by omega, Nat.zero_le _, (fun t ht => by (cases ht)), Nat.le_refl _, Nat.zero_le _⟩⟩
    · simp only [List.cons.injEq, and_true] at hc
      subst hc
      simp only [if_true] at hm
      subst hm
      have hone : ∀ i, i < len → V0 i = .string (str (nameV (V0 i))) ∧ V1 i = .int .u32 (intOf (V1 i)) ∧ 0 ≤ intOf (V1 i) ∧ intOf (V1 i) < 4294967296 ∧ (nameV (V0 i)).length + 1 ≤ Rows.uptoBulk (D0 i) := fun i hi => by
        obtain ⟨_, _, h0, h1⟩ := hall i (by omega)
        obtain ⟨s, e0, e1, _⟩ := DataW.trod_string Tryd.underlying9 h0
        obtain ⟨z, e2, e3, wz⟩ := DataW.trod_int Tryd.underlying23 h1
        simp only [List.cons.injEq, and_true] at e0 e2
        simp only [Prod.mk.injEq] at e1 e3
        rw [e0, e2, e1.1]
        have := bounds_u32 wz
        refine ⟨?_, rfl, this.1, by simp only [intOf]; omega, by simp [nameV, Rows.uptoBulk]⟩
        simp [nameV, str]
      have hbulk : ∀ i, i < len → Rows.uptoBulk (D0 i) + 1 ≤ Rows.uptoBulkAll ((List.range len).map fun i => DataW.agg [D0 i, D1 i]) := fun i hi => by
        have := bulk_mem ((List.range len).map fun i => DataW.agg [D0 i, D1 i]) (.agg [D0 i, D1 i]) (List.mem_map.2 ⟨i, List.mem_range.2 hi, rfl⟩)
        simp only [Rows.uptoBulk, Rows.uptoBulkAll] at this
        omega
      have hfew := bulk_all ((List.range len).map fun i => DataW.agg [D0 i, D1 i])
      simp only [List.length_map, List.length_range] at hfew
      have hB : Rows.uptoBulkAll ((List.range len).map fun i => DataW.agg [D0 i, D1 i]) ≤ Rows.uptoBulk (DataW.agg [DataW.slice ((List.range len).map fun i => DataW.agg [D0 i, D1 i]) ((List.range (m - len)).map fun j => DataW.agg [D0 (len + j), D1 (len + j)]), DataW.lit (Lit.int IntKind.u32 k)]) := by
        simp only [Rows.uptoBulk, Rows.uptoBulkAll]
        omega
      have hat : ∀ i t, ((List.range len).map fun i => (⟨nameV (V0 i), intOf (V1 i)⟩ : Tm))[i]? = some t → i < len ∧ t = ⟨nameV (V0 i), intOf (V1 i)⟩ := fun i t ht => by
        rw [List.getElem?_map, Option.map_eq_some_iff] at ht
        obtain ⟨j, hj, rfl⟩ := ht
        obtain ⟨hj1, hj2⟩ := List.getElem?_eq_some_iff.1 hj
        simp at hj1 hj2
        subst hj2
        exact ⟨hj1, rfl⟩
      refine ⟨some a, m, (List.range len).map fun i => ⟨nameV (V0 i), intOf (V1 i)⟩, k, ⟨by simp [linV], ⟨?_, fun h => by cases h⟩, hb.1, by omega, by simp; omega, fun t ht => ?_, by simpa using hlc, hcm⟩⟩
      · by_cases h0 : len = 0
        · subst h0
          exact .inl rfl
        · obtain ⟨b, off, spot⟩ := a
          have hspot : spot = none := by simpa [Addr.add] using World.cell?_spot (hall 0 (by omega)).1
          subst hspot
          have hadd : ∀ j, (⟨b, off, none⟩ : Addr).add j = ⟨b, off + j, none⟩ := fun j => by unfold Addr.add; split <;> simp_all
          refine .inr ⟨b, off, rfl, ?_, fun i t ht => ?_⟩
          · have h1 := (hall 0 (by omega)).1
            apply Decidable.byContradiction
            intro hn
            unfold World.cell? at h1
            simp [Array.getElem?_eq_none (show W.heap.size ≤ b by omega), hadd] at h1
          · obtain ⟨hi, rfl⟩ := hat i t ht
            obtain ⟨k0, k1, _⟩ := hall i (by omega)
            rw [hadd] at k0 k1
            obtain ⟨e0, e1, _⟩ := hone i hi
            exact ⟨by rw [k0, ← e0], by rw [Nat.add_assoc, k1, ← e1]⟩
      · obtain ⟨i, hi⟩ := List.getElem?_of_mem ht
        obtain ⟨hi2, rfl⟩ := hat i t hi
        obtain ⟨_, _, e2, e3, e4⟩ := hone i hi2
        have := hbulk i hi2
        exact ⟨e2, e3, by simp only; omega⟩
end Go.Proofs.YtijdjljnppkhmabDoor
