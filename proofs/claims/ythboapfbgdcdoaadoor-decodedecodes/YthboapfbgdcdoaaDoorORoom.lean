/- Contracts of the book of memory's Same, Roomy and Intact, over bytes. -/
import Derived.Test.YthboapfbgdcdoaaDoorOBook
namespace Go.Proofs.YthboapfbgdcdoaaDoor
open Go.ChangeShapes Go.WideShapes Go.ChangeAt Go.RowKit
set_option linter.unusedVariables false

/-- block g of w is a row that holds just the bytes zs -/
def BRow (w : World) (g : Nat) (zs : List Int) : Prop := w.heap[g]? = some (.cells (cellsOf zs).toArray 5 (0, 0))

theorem BRow.cell {w : World} {g : Nat} {zs : List Int} (h : BRow w g zs) (i : Nat) (hi : i < zs.length) : w.cell? ⟨g, i, none⟩ = some (.int .u8 (zs.getD i 0)) := by
  rw [cell_of_row w g i _ 5 (0, 0) h]
  simpa using cellsOf_get zs i hi
theorem BRow.lt {w : World} {g : Nat} {zs : List Int} (h : BRow w g zs) : g < w.heap.size := (Array.getElem?_eq_some_iff.1 h).1
theorem BRow.below {w w' : World} {g B : Nat} {zs : List Int} (h : BRow w g zs) (hb : Below B w w') (hg : g < B) : BRow w' g zs := by
  unfold BRow at h ⊢
  rw [hb.block g hg, h]

theorem BRow.frozen {w : World} {g : Nat} {zs : List Int} (h : BRow w g zs) (i : Nat) : w.frozen? ⟨g, i, none⟩ = false := frozen_of_row w g i _ 5 h
theorem BRow.set {w : World} {g : Nat} {zs : List Int} (h : BRow w g zs) (i : Nat) (z : Int) : BRow (w.setCell ⟨g, i, none⟩ (.int .u8 z)) g (zs.set i z) := by
  have := heap_setCell_same w g i _ 5 (.int .u8 z) h
  unfold BRow
  rw [this]
  simp [cellsOf, List.map_set]

theorem made_row {w : World} {base g n : Nat} (h : w.ownsRow base 5 1 (.slice (some ⟨g, 0, none⟩) n n) n (madeCells (Value.int .u8 0).cells (n * 1)).toList) : BRow w g (List.replicate n 0) := by
  rcases h.2 with ⟨h', _⟩ | ⟨g', cap', cur, h', _, hg, _, _, hs, ht⟩
  · simp at h'
  · simp only [Value.slice.injEq, Option.some.injEq, Addr.mk.injEq, and_true, true_and] at h'
    obtain ⟨rfl, rfl⟩ := h'
    unfold BRow
    rw [hg]
    have e : cur.toList = cellsOf (List.replicate n 0) := by
      rw [List.take_of_length_le (by simpa using Nat.le_of_eq hs)] at ht
      rw [ht]
      have : (Value.int IntKind.u8 0).cells = #[.int .u8 0] := rfl
      rw [this, toList_madeCells_one]
      simp [cellsOf]
    rw [← e]

theorem roomy_any (a : Option Addr) (cap : Nat) (zs : List Int) (m : Int) (w : World) (hl : Lies w a zs) (hm : zs.length ≤ 140737488355328) :
    Calls Tryd.prog 11 #[.slice a zs.length cap, .int .u8 m] w fun e w' => e = .returned (.slice (some ⟨w.heap.size, 0, none⟩) (zs.length + 80) (zs.length + 80)) ∧ BRow w' w.heap.size (zs ++ List.replicate 80 m) ∧ Below w.heap.size w w' := by
  obtain ⟨i0, hi, hz0, hz1, hz2⟩ := info_parts Tryd.info5
  go_enter Tryd.func11, Tryd.ntmps11
  go_wp2_with (first
    | (at_make; go_must (refine wpList_make_full _ rfl (.tmp 9) (.tmp 9) 22 rfl w.heap.size 5 i0 (.int .u8 0) 1 Tryd.underlying22 hi hz0 hz1 .i64 .i64 _ _ (zs.length + 80) rfl rfl (by omega) (by omega) (by rw [hz2]; omega) (by unfold maxLen; omega) (Nat.le_refl _) ?_; intro w1 hown1 hgrow1; have hr1 := made_row hown1; have hb1 : Below w.heap.size w w1 := (Below.refl _ _).grown hgrow1 (Nat.le_refl _) (fun k hk => by cases hk); clear hown1 hgrow1))
    | (refine wpList_copy_splice rfl (.tmp 11) (.tmp 12) 22 22 rfl 5 Tryd.underlying22 (by kernel_rfl) _ _ _ _ _ _ rfl rfl w.heap.size 0 (cellsOf (List.replicate (zs.length + 80) 0)) 5 hr1 (cellsOf zs) (by rw [cellsOf_length]; exact (Nat.min_eq_left (by omega)).symm) (fun h0 => ⟨rfl, lies_src hl hb1 h0⟩) (by simp [cellsOf_length]) (cellsOf_one zs) w.heap.size w hb1 (Nat.le_refl _) ?_; intro w2 hg2 hb2; rw [splice_fill zs m _ (by omega)] at hg2))
  go_loopw [6] (fun i wr => ∃ k : Nat, zs.length ≤ k ∧ k ≤ zs.length + 80 ∧ i = .int .i64 k ∧ BRow wr w.heap.size (fillRow zs m (zs.length + 80) k) ∧ Below w.heap.size w wr) (fun i _ => zs.length + 80 - (intOf i).toNat)
  case atStart => exact ⟨zs.length, Nat.le_refl _, by omega, rfl, hg2.out, hb2⟩
  case round =>
    obtain ⟨k, hk0, hk, rfl, hrow, hbr⟩ := hrel
    by_cases hlt : k < zs.length + 80
    · have q1 := hrow.cell k (by rw [fillRow_length _ _ _ _ hk0 hk]; exact hlt)
      have q2 := hrow.frozen k
      have q3 : BRow (wr.setCell ⟨w.heap.size, k, none⟩ (.int .u8 m)) w.heap.size (fillRow zs m (zs.length + 80) (k + 1)) := by
        rw [← fillRow_set zs m _ k hk0 hlt]; exact hrow.set k m
      have q4 : Below w.heap.size w (wr.setCell ⟨w.heap.size, k, none⟩ (.int .u8 m)) := hbr.setCell (Nat.le_refl _) _
      clear hrow
      go_wp2
      go_roundw
      case rel => exact ⟨k + 1, by omega, by omega, by go_num, q3, q4⟩
      case measure => simp [intOf]; omega
    · have e : k = zs.length + 80 := by omega
      subst e
      go_wp2
      go_ret
      exact ⟨rfl, by simpa [fillRow] using hrow, hbr⟩

theorem BRow.lies {w : World} {g : Nat} {zs ys : List Int} (h : BRow w g (zs ++ ys)) (hz : AreBytes zs) : Lies w (some ⟨g, 0, none⟩) zs := by
  refine ⟨hz, .inr ⟨g, 0, rfl, fun i hi => ?_⟩⟩
  have := h.cell i (by simp; omega)
  rw [Nat.zero_add, this]
  simp [List.getElem?_append_left hi]

theorem BRow.drewN {w : World} {g : Nat} {zs : List Int} (h : BRow w g zs) (n : Nat) : BRow (w.drewN n) g zs := by
  have e : (w.drewN n).heap = w.heap := by simp
  unfold BRow
  rw [e]
  exact h
theorem intact_any (a : Option Addr) (g cap : Nat) (zs : List Int) (m : Int) (w : World) (hl : Lies w a zs) (hr : BRow w g (zs ++ List.replicate 80 m)) (hm : zs.length ≤ 140737488355328) :
    Calls Tryd.prog 13 #[.slice (some ⟨g, 0, none⟩) (zs.length + 80) (zs.length + 80), .slice a zs.length cap, .int .u8 m] w fun e w' => e = .returned (.bool true) ∧ ∃ n, w' = w.drewN n := by
  have hs := fun c => same_eq (some ⟨g, 0, none⟩) a c cap zs w (hr.lies hl.1) hl (by unfold maxLen; omega)
  have hcell : ∀ n k, zs.length ≤ k → k < zs.length + 80 → (w.drewN n).cell? ⟨g, k, none⟩ = some (.int .u8 m) := by
    intro n k h1 h2
    rw [(hr.drewN n).cell k (by rw [List.length_append, List.length_replicate]; exact h2), getD_tail zs m 80 k h1 h2]
  clear hl hr
  go_enter Tryd.func13, Tryd.ntmps13
  go_wp2_with (first | (go_at_call 30; refine (hs _).mono ?_; rintro e w' ⟨rfl, n0, rfl⟩))
  go_loop [7] (fun i => ∃ k : Nat, zs.length ≤ k ∧ k ≤ zs.length + 80 ∧ i = .int .i64 k) (fun i => zs.length + 80 - (intOf i).toNat)
  case atStart => exact ⟨zs.length, Nat.le_refl _, by omega, rfl⟩
  case round =>
    obtain ⟨k, hk0, hk, rfl⟩ := hrel
    by_cases hlt : k < zs.length + 80
    · have q := hcell n0 k hk0 hlt
      clear hcell
      go_wp2
      go_round
      case rel => exact ⟨k + 1, by omega, by omega, by go_num⟩
      case measure => simp [intOf]; omega
    · go_wp2
      go_ret
      exact ⟨rfl, n0, rfl⟩

end Go.Proofs.YthboapfbgdcdoaaDoor
