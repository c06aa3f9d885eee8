/- How bytes that came in are opened: they lie in memory. -/
import Derived.Test.YtplbejicjinhaaaGets0
namespace Go.Proofs.Ytplbejicjinhaaa
open Go.ChangeShapes Go.WideShapes Go.ChangeAt Go.RowKit
set_option linter.unusedVariables false

theorem Try.bytes5 : Try.prog.bytesOf 5 = 1 := by kernel_rfl
theorem lies_nil (w : World) (a : Option Addr) : Lies w a [] := ⟨fun z hz => (by cases hz), .inl rfl⟩
theorem lies_open {w : World} {x : Addr} {zs : List Int} {len : Nat} (hl : len ≤ zs.length) (hcell : ∀ i, i < zs.length → w.cell? (x.add i) = some (.int .u8 (zs.getD i 0)))
    (hwz : ∀ n ∈ zs, (Lit.int .u8 n).wf = true) : Lies w (some x) (zs.take len) := by
  refine ⟨fun z hz => ?_, ?_⟩
  · have := bounds_u8 (hwz z (List.mem_of_mem_take hz))
    omega
  · by_cases h0 : len = 0
    · subst h0
      exact .inl (by simp)
    · refine .inr ?_
      obtain ⟨b, off, spot⟩ := x
      have hspot : spot = none := by simpa [Addr.add] using World.cell?_spot (hcell 0 (by omega))
      subst hspot
      refine ⟨b, off, rfl, fun i hi => ?_⟩
      simp at hi
      have := hcell i (by omega)
      have hadd : (⟨b, off, none⟩ : Addr).add i = ⟨b, off + i, none⟩ := by unfold Addr.add; split <;> simp_all
      rw [hadd] at this
      rw [this]
      simp [List.getElem?_take_of_lt (show i < len by omega)]

theorem bulk_one {H : Type} (d : DataW H) : ([] : List Int).length + 1 ≤ Rows.uptoBulk d := by
  cases d with
  | lit l => cases l <;> simp [Rows.uptoBulk]
  | nil => simp [Rows.uptoBulk]
  | ptr d => simp [Rows.uptoBulk]
  | slice elems spare => simp [Rows.uptoBulk]
  | agg parts => simp [Rows.uptoBulk]
  | iface t d => simp [Rows.uptoBulk]
  | map entries => simp [Rows.uptoBulk]
  | held h => simp [Rows.uptoBulk]
theorem bulk_all {H : Type} (l : List (DataW H)) : l.length ≤ Rows.uptoBulkAll l := by
  induction l with
  | nil => simp [Rows.uptoBulkAll]
  | cons x r ih =>
    have := bulk_one x
    simp only [Rows.uptoBulkAll, List.length_cons]
    simp at this
    omega
theorem bulk_slice {H : Type} (elems spare : List (DataW H)) (n : Nat) (h : n ≤ elems.length) : n + 1 ≤ Rows.uptoBulk (.slice elems spare) := by
  have := bulk_all elems
  simp only [Rows.uptoBulk]
  omega
end Go.Proofs.Ytplbejicjinhaaa
