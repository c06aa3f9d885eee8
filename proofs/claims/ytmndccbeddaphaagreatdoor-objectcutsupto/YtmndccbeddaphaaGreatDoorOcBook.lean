/- Contracts of the book of memory's Same, Roomy and Intact, over bytes. -/
import Derived.Test.YtmndccbeddaphaaGreatDoorOcGets0
import Derived.Deep.QuietTactic
import Derived.BigQuiet
import Derived.WalkSmall
import Derived.WalkSpells
import Derived.Laws.CopyOwn
namespace Go.Proofs.YtmndccbeddaphaaGreatDoor.O
open Go.ChangeShapes Go.WideShapes Go.ChangeAt Go.RowKit
set_option linter.unusedVariables false
set_option maxRecDepth 100000

theorem same_eq (a1 a2 : Option Addr) (c1 c2 : Nat) (xs : List Int) (w : World) (h1 : Lies w a1 xs) (h2 : Lies w a2 xs) (hm : xs.length ≤ maxLen) :
    Calls Tryz.prog 15 #[.slice a1 xs.length c1, .slice a2 xs.length c2] w fun e w' => e = .returned (.bool true) ∧ ∃ n, w' = w.drewN n := by
  unfold maxLen at hm
  rcases h1.2 with rfl | ⟨b1, o1, rfl, hc1⟩
  · go_enter Tryz.func15, Tryz.ntmps15
    go_wp2
    go_loop [5] (fun i => i = .int .i64 0) (fun _ => 0)
    case atStart => rfl
    case round =>
      subst hrel
      go_wp2
      go_ret
      exact ⟨rfl, 0, rfl⟩
  · rcases h2.2 with rfl | ⟨b2, o2, rfl, hc2⟩
    · go_enter Tryz.func15, Tryz.ntmps15
      go_wp2
      go_loop [5] (fun i => i = .int .i64 0) (fun _ => 0)
      case atStart => rfl
      case round =>
        subst hrel
        go_wp2
        go_ret
        exact ⟨rfl, 0, rfl⟩
    · clear h1 h2
      go_enter Tryz.func15, Tryz.ntmps15
      go_wp2
      go_loopw [5] (fun i wr => ∃ k n : Nat, k ≤ xs.length ∧ i = .int .i64 k ∧ wr = w.drewN n) (fun i _ => xs.length - (intOf i).toNat)
      case atStart => exact ⟨0, 0, Nat.zero_le _, rfl, rfl⟩
      case round =>
        obtain ⟨k, n, hk, rfl, rfl⟩ := hrel
        by_cases hlt : k < xs.length
        · have q1 := hc1 k hlt
          have q2 := hc2 k hlt
          go_wp2
          go_quiet (fail)
          go_wp2
          go_roundw
          case rel => exact ⟨k + 1, n + nq, by omega, by go_num, by simp⟩
          case measure => simp [intOf]; omega
        · go_wp2
          go_ret
          exact ⟨rfl, n, rfl⟩

def cellsOf (zs : List Int) : List Value := zs.map (Value.int .u8)
theorem cellsOf_length (zs : List Int) : (cellsOf zs).length = zs.length := by simp [cellsOf]
theorem cellsOf_get (zs : List Int) (i : Nat) (h : i < zs.length) : (cellsOf zs)[i]? = some (.int .u8 (zs.getD i 0)) := by
  simp [cellsOf, List.getElem?_eq_getElem h]

/-- block g of w is a row that holds just the bytes zs -/
def RowIs (w : World) (g : Nat) (zs : List Int) : Prop := w.heap[g]? = some (.cells (cellsOf zs).toArray 5 (0, 0))

theorem RowIs.cell {w : World} {g : Nat} {zs : List Int} (h : RowIs w g zs) (i : Nat) (hi : i < zs.length) : w.cell? ⟨g, i, none⟩ = some (.int .u8 (zs.getD i 0)) := by
  rw [cell_of_row w g i _ 5 (0, 0) h]
  simpa using cellsOf_get zs i hi
theorem RowIs.lt {w : World} {g : Nat} {zs : List Int} (h : RowIs w g zs) : g < w.heap.size := (Array.getElem?_eq_some_iff.1 h).1
theorem RowIs.below {w w' : World} {g B : Nat} {zs : List Int} (h : RowIs w g zs) (hb : Below B w w') (hg : g < B) : RowIs w' g zs := by
  unfold RowIs at h ⊢
  rw [hb.block g hg, h]

theorem Tryz.info5 : (Tryz.prog.info? 5).map (fun i => (i.zero, i.size, i.bytes)) = some (some (.int .u8 0), 1, 1) := by kernel_rfl

theorem RowIs.frozen {w : World} {g : Nat} {zs : List Int} (h : RowIs w g zs) (i : Nat) : w.frozen? ⟨g, i, none⟩ = false := frozen_of_row w g i _ 5 h
theorem RowIs.set {w : World} {g : Nat} {zs : List Int} (h : RowIs w g zs) (i : Nat) (z : Int) : RowIs (w.setCell ⟨g, i, none⟩ (.int .u8 z)) g (zs.set i z) := by
  have := heap_setCell_same w g i _ 5 (.int .u8 z) h
  unfold RowIs
  rw [this]
  simp [cellsOf, List.map_set]

theorem made_row {w : World} {base g n : Nat} (h : w.ownsRow base 5 1 (.slice (some ⟨g, 0, none⟩) n n) n (madeCells (Value.int .u8 0).cells (n * 1)).toList) : RowIs w g (List.replicate n 0) := by
  rcases h.2 with ⟨h', _⟩ | ⟨g', cap', cur, h', _, hg, _, _, hs, ht⟩
  · simp at h'
  · simp only [Value.slice.injEq, Option.some.injEq, Addr.mk.injEq, and_true, true_and] at h'
    obtain ⟨rfl, rfl⟩ := h'
    unfold RowIs
    rw [hg]
    have e : cur.toList = cellsOf (List.replicate n 0) := by
      rw [List.take_of_length_le (by simpa using Nat.le_of_eq hs)] at ht
      rw [ht]
      have : (Value.int IntKind.u8 0).cells = #[.int .u8 0] := rfl
      rw [this, toList_madeCells_one]
      simp [cellsOf]
    rw [← e]

/-- a row of N bytes: zs, then marks up to place k, then noughts -/
def fillRow (zs : List Int) (m : Int) (N k : Nat) : List Int := zs ++ List.replicate (k - zs.length) m ++ List.replicate (N - k) 0
theorem fillRow_length (zs : List Int) (m : Int) (N k : Nat) (h : zs.length ≤ k) (hk : k ≤ N) : (fillRow zs m N k).length = N := by simp [fillRow]; omega
theorem fillRow_set (zs : List Int) (m : Int) (N k : Nat) (h : zs.length ≤ k) (hk : k < N) : (fillRow zs m N k).set k m = fillRow zs m N (k + 1) := by
  unfold fillRow
  rw [List.set_append_right _ _ (by simp; omega)]
  have e1 : k - (zs ++ List.replicate (k - zs.length) m).length = 0 := by simp; omega
  obtain ⟨j, hj⟩ : ∃ j, N - k = j + 1 := ⟨N - k - 1, by omega⟩
  have hj' : N - (k + 1) = j := by omega
  rw [e1, hj, hj', List.replicate_succ, List.set_cons_zero, show k + 1 - zs.length = (k - zs.length) + 1 by omega, List.replicate_succ']
  simp

theorem lies_src {w : World} {a : Option Addr} {zs : List Int} (hl : Lies w a zs) {w1 : World} (hb : Below w.heap.size w w1) (h0 : 0 < (cellsOf zs).length) :
    ∃ ad, a = some ad ∧ ∀ j v, (cellsOf zs)[j]? = some v → w1.cell? (ad.add j) = some v := by
  rcases hl.2 with rfl | ⟨b, off, rfl, hc⟩
  · simp [cellsOf] at h0
  · refine ⟨_, rfl, fun j v hj => ?_⟩
    have hlt : j < zs.length := by
      rcases Nat.lt_or_ge j zs.length with h | h
      · exact h
      · rw [List.getElem?_eq_none (by simpa [cellsOf] using h)] at hj
        cases hj
    have hadd : (⟨b, off, none⟩ : Addr).add j = ⟨b, off + j, none⟩ := by unfold Addr.add; split <;> simp_all
    rw [cellsOf_get zs j hlt] at hj
    rw [hadd, hb.cell (World.block_lt_of_cell? w _ (hc j hlt)), hc j hlt, hj]
theorem cellsOf_one (zs : List Int) : ∀ v ∈ cellsOf zs, v.oneCell' = true := by
  intro v hv
  simp [cellsOf] at hv
  obtain ⟨z, _, rfl⟩ := hv
  rfl
theorem splice_fill (zs : List Int) (m : Int) (N : Nat) (h : zs.length ≤ N) : splice (cellsOf (List.replicate N 0)) 0 (cellsOf zs) = cellsOf (fillRow zs m N zs.length) := by
  simp [splice, cellsOf, fillRow]

theorem roomy_any (a : Option Addr) (cap : Nat) (zs : List Int) (m : Int) (w : World) (hl : Lies w a zs) (hm : zs.length ≤ 140737488355328) :
    Calls Tryz.prog 16 #[.slice a zs.length cap, .int .u8 m] w fun e w' => e = .returned (.slice (some ⟨w.heap.size, 0, none⟩) (zs.length + 80) (zs.length + 80)) ∧ RowIs w' w.heap.size (zs ++ List.replicate 80 m) ∧ Below w.heap.size w w' := by
  obtain ⟨i0, hi, hz0, hz1, hz2⟩ := info_parts Tryz.info5
  go_enter Tryz.func16, Tryz.ntmps16
  go_wp2_with (first
    | (at_make; go_must (refine wpList_make_full _ rfl (.tmp 9) (.tmp 9) 22 rfl w.heap.size 5 i0 (.int .u8 0) 1 Tryz.underlying22 hi hz0 hz1 .i64 .i64 _ _ (zs.length + 80) rfl rfl (by omega) (by omega) (by rw [hz2]; omega) (by unfold maxLen; omega) (Nat.le_refl _) ?_; intro w1 hown1 hgrow1; have hr1 := made_row hown1; have hb1 : Below w.heap.size w w1 := (Below.refl _ _).grown hgrow1 (Nat.le_refl _) (fun k hk => by cases hk); clear hown1 hgrow1))
    | (refine wpList_copy_splice rfl (.tmp 11) (.tmp 12) 22 22 rfl 5 Tryz.underlying22 (by kernel_rfl) _ _ _ _ _ _ rfl rfl w.heap.size 0 (cellsOf (List.replicate (zs.length + 80) 0)) 5 hr1 (cellsOf zs) (by rw [cellsOf_length]; exact (Nat.min_eq_left (by omega)).symm) (fun h0 => ⟨rfl, lies_src hl hb1 h0⟩) (by simp [cellsOf_length]) (cellsOf_one zs) w.heap.size w hb1 (Nat.le_refl _) ?_; intro w2 hg2 hb2; rw [splice_fill zs m _ (by omega)] at hg2))
  go_loopw [6] (fun i wr => ∃ k : Nat, zs.length ≤ k ∧ k ≤ zs.length + 80 ∧ i = .int .i64 k ∧ RowIs wr w.heap.size (fillRow zs m (zs.length + 80) k) ∧ Below w.heap.size w wr) (fun i _ => zs.length + 80 - (intOf i).toNat)
  case atStart => exact ⟨zs.length, Nat.le_refl _, by omega, rfl, hg2.out, hb2⟩
  case round =>
    obtain ⟨k, hk0, hk, rfl, hrow, hbr⟩ := hrel
    by_cases hlt : k < zs.length + 80
    · have q1 := hrow.cell k (by rw [fillRow_length _ _ _ _ hk0 hk]; exact hlt)
      have q2 := hrow.frozen k
      have q3 : RowIs (wr.setCell ⟨w.heap.size, k, none⟩ (.int .u8 m)) w.heap.size (fillRow zs m (zs.length + 80) (k + 1)) := by
        rw [← fillRow_set zs m _ k hk0 hlt]; exact hrow.set k m
      have q4 : Below w.heap.size w (wr.setCell ⟨w.heap.size, k, none⟩ (.int .u8 m)) := hbr.setCell (Nat.le_refl _) _
      clear hrow
      go_wp2
      go_roundw
      case rel => exact ⟨k + 1, by omega, by omega, by go_num, q3, q4⟩
      case measure => simp [intOf]; omega
    · have e : k = zs.length + 80 := by omega
      subst e
      go_wp2
      go_ret
      exact ⟨rfl, by simpa [fillRow] using hrow, hbr⟩

theorem RowIs.lies {w : World} {g : Nat} {zs ys : List Int} (h : RowIs w g (zs ++ ys)) (hz : AreBytes zs) : Lies w (some ⟨g, 0, none⟩) zs := by
  refine ⟨hz, .inr ⟨g, 0, rfl, fun i hi => ?_⟩⟩
  have := h.cell i (by simp; omega)
  rw [Nat.zero_add, this]
  simp [List.getElem?_append_left hi]

theorem RowIs.drewN {w : World} {g : Nat} {zs : List Int} (h : RowIs w g zs) (n : Nat) : RowIs (w.drewN n) g zs := by
  have e : (w.drewN n).heap = w.heap := by simp
  unfold RowIs
  rw [e]
  exact h
theorem Lies.drewN {w : World} {a : Option Addr} {zs : List Int} (h : Lies w a zs) (n : Nat) : Lies (w.drewN n) a zs := by
  refine ⟨h.1, ?_⟩
  rcases h.2 with h | ⟨b, off, ha, hc⟩
  · exact .inl h
  · exact .inr ⟨b, off, ha, fun i hi => by rw [← hc i hi]; simp⟩
theorem Lies.below {w w' : World} {a : Option Addr} {zs : List Int} (h : Lies w a zs) (hb : Below w.heap.size w w') : Lies w' a zs := by
  refine ⟨h.1, ?_⟩
  rcases h.2 with h | ⟨b, off, ha, hc⟩
  · exact .inl h
  · exact .inr ⟨b, off, ha, fun i hi => by rw [hb.cell (World.block_lt_of_cell? w _ (hc i hi))]; exact hc i hi⟩

theorem getD_tail (zs : List Int) (m : Int) (N k : Nat) (h1 : zs.length ≤ k) (h2 : k < zs.length + N) : (zs ++ List.replicate N m).getD k 0 = m := by
  rw [List.getD_eq_getElem?_getD, List.getElem?_append_right h1, List.getElem?_replicate_of_lt (by omega)]
  rfl

theorem intact_any (a : Option Addr) (g cap : Nat) (zs : List Int) (m : Int) (w : World) (hl : Lies w a zs) (hr : RowIs w g (zs ++ List.replicate 80 m)) (hm : zs.length ≤ 140737488355328) :
    Calls Tryz.prog 19 #[.slice (some ⟨g, 0, none⟩) (zs.length + 80) (zs.length + 80), .slice a zs.length cap, .int .u8 m] w fun e w' => e = .returned (.bool true) ∧ ∃ n, w' = w.drewN n := by
  have hs := fun c => same_eq (some ⟨g, 0, none⟩) a c cap zs w (hr.lies hl.1) hl (by unfold maxLen; omega)
  have hcell : ∀ n k, zs.length ≤ k → k < zs.length + 80 → (w.drewN n).cell? ⟨g, k, none⟩ = some (.int .u8 m) := by
    intro n k h1 h2
    rw [(hr.drewN n).cell k (by rw [List.length_append, List.length_replicate]; exact h2), getD_tail zs m 80 k h1 h2]
  clear hl hr
  go_enter Tryz.func19, Tryz.ntmps19
  go_wp2_with (first | (go_at_call 15; refine (hs _).mono ?_; rintro e w' ⟨rfl, n0, rfl⟩))
  go_loop [7] (fun i => ∃ k : Nat, zs.length ≤ k ∧ k ≤ zs.length + 80 ∧ i = .int .i64 k) (fun i => zs.length + 80 - (intOf i).toNat)
  case atStart => exact ⟨zs.length, Nat.le_refl _, by omega, rfl⟩
  case round =>
    obtain ⟨k, hk0, hk, rfl⟩ := hrel
    by_cases hlt : k < zs.length + 80
    · have q := hcell n0 k hk0 hlt
      clear hcell
      go_wp2
      go_round
      case rel => exact ⟨k + 1, by omega, by omega, by go_num⟩
      case measure => simp [intOf]; omega
    · go_wp2
      go_ret
      exact ⟨rfl, n0, rfl⟩

end Go.Proofs.YtmndccbeddaphaaGreatDoor.O
