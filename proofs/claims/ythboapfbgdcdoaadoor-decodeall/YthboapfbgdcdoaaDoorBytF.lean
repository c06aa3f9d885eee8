/- How bytes that came in are opened: they lie in memory. -/
import Derived.Test.YthboapfbgdcdoaaDoorFrame
import Derived.Test.YthboapfbgdcdoaaDoorOBook
import Derived.SizedLaws
namespace Go.Proofs.YthboapfbgdcdoaaDoor
open Go.ChangeShapes Go.WideShapes Go.ChangeAt Go.RowKit
set_option linter.unusedVariables false
set_option maxRecDepth 100000

theorem bytes5 : Tryd.prog.bytesOf 5 = 1 := by kernel_rfl
theorem lies_nil (w : World) (a : Option Addr) : Lies w a [] := ⟨fun z hz => (by cases hz), .inl rfl⟩
theorem lies_open {w : World} {x : Addr} {zs : List Int} {len : Nat} (hl : len ≤ zs.length) (hcell : ∀ i, i < zs.length → w.cell? (x.add i) = some (.int .u8 (zs.getD i 0)))
    (hwz : ∀ n ∈ zs, (Lit.int .u8 n).wf = true) : Lies w (some x) (zs.take len) := by
  refine ⟨fun z hz => ?_, ?_⟩
  · have := bounds_u8 (hwz z (List.mem_of_mem_take hz))
    omega
  · by_cases h0 : len = 0
    · subst h0
      exact .inl (by simp)
    · refine .inr ?_
      obtain ⟨b, off, spot⟩ := x
      have hspot : spot = none := by simpa [Addr.add] using World.cell?_spot (hcell 0 (by omega))
      subst hspot
      refine ⟨b, off, rfl, fun i hi => ?_⟩
      simp at hi
      have := hcell i (by omega)
      have hadd : (⟨b, off, none⟩ : Addr).add i = ⟨b, off + i, none⟩ := by unfold Addr.add; split <;> simp_all
      rw [hadd] at this
      rw [this]
      simp [List.getElem?_take_of_lt (show i < len by omega)]

theorem bulk_one {H : Type} (d : DataW H) : ([] : List Int).length + 1 ≤ Rows.uptoBulk d := by
  cases d with
  | lit l => cases l <;> simp [Rows.uptoBulk]
  | nil => simp [Rows.uptoBulk]
  | ptr d => simp [Rows.uptoBulk]
  | slice elems spare => simp [Rows.uptoBulk]
  | agg parts => simp [Rows.uptoBulk]
  | iface t d => simp [Rows.uptoBulk]
  | map entries => simp [Rows.uptoBulk]
  | held h => simp [Rows.uptoBulk]
theorem bulk_all {H : Type} (l : List (DataW H)) : l.length ≤ Rows.uptoBulkAll l := by
  induction l with
  | nil => simp [Rows.uptoBulkAll]
  | cons x r ih =>
    have := bulk_one x
    simp only [Rows.uptoBulkAll, List.length_cons]
    simp at this
    omega
theorem bulk_slice {H : Type} (elems spare : List (DataW H)) (n : Nat) (h : n ≤ elems.length) : n + 1 ≤ Rows.uptoBulk (.slice elems spare) := by
  have := bulk_all elems
  simp only [Rows.uptoBulk]
  omega

theorem open_bytes {H : Type} {enc : TypeId × Value → H} {W : World} {base : Nat} {v : Value} {d : DataW H} {p : List MemPlace} {ts : List TypeId} {ds : List (DataW H)} {j : Nat}
    (hval : Value.okWide Tryd.prog W .any base 22 v) (h : DataW.Trod enc Tryd.prog W 0 (fun _ => true) true 22 v d p) (hsz : (DataW.weightsEach Tryd.prog ts ds).all (· ≤ reachBytes) = true) (ht : ts[j]? = some 22) (hd : ds[j]? = some d) :
    ∃ a zs c, v = .slice a zs.length c ∧ Lies W a zs ∧ zs.length ≤ c ∧ (a = none → zs.length = 0 ∧ c = 0) ∧ c ≤ 140737488351232 ∧ zs.length + 1 ≤ Rows.uptoBulk d := by
  obtain ⟨a0, len0, cap0, rfl⟩ := okWide_slice Tryd.underlying22 hval
  obtain ⟨fuel, hf⟩ := h
  rcases open_ints Tryd.underlying22 Tryd.underlying5 (by kernel_rfl) hf with ⟨hcs, hx⟩ | ⟨x, l, c, zs, hcs, _, hl, hm, hz, hx, hcell, hwz⟩
  · simp [Value.cells] at hcs
    obtain ⟨rfl, rfl, rfl⟩ := hcs
    exact ⟨none, [], 0, rfl, lies_nil _ _, Nat.le_refl _, fun _ => ⟨rfl, rfl⟩, by omega, bulk_one _⟩
  · simp [Value.cells] at hcs
    obtain ⟨rfl, rfl, rfl⟩ := hcs
    simp only [Prod.mk.injEq] at hx
    have hz' : zs.length = cap0 := by simpa using hz
    have hs := sized_slice hsz (j := j) (t := 22) (e := 5) ht (by rw [hd, hx.1]) Tryd.underlying22
    rw [bytes5] at hs
    simp only [lits, List.length_map, List.length_take, List.length_drop, reachBytes] at hs
    have e1 : (zs.take len0).length = len0 := by simp; omega
    refine ⟨some x, zs.take len0, cap0, by rw [e1], lies_open (by omega) hcell hwz, by omega, fun h => (by cases h), by omega, ?_⟩
    rw [hx.1]
    exact bulk_slice _ _ _ (by simp [lits])
end Go.Proofs.YthboapfbgdcdoaaDoor
