/- A region that draws its order and whose last operation, a store, waits for all others: the loads among them are taken first under a condition that the store itself ends. -/
import Derived.Test.YtmndccbeddaphaaGreatDoorOcText
import Derived.Deep.QuietTactic
import Derived.BigQuiet
import Derived.WalkSmall
import Derived.WalkSpells
import Derived.Laws.CopyOwn
import Derived.Laws.AppendOwnNone
import Derived.Lib.AppendStr
import Derived.Test.YtmndccbeddaphaaGreatDoorProg
import Derived.Deep.RegionHeld3
namespace Go.Proofs.YtmndccbeddaphaaGreatDoor.O
open Go.ChangeShapes Go.WideShapes Go.ChangeAt Go.RowKit
set_option linter.unusedVariables false
set_option maxRecDepth 100000
theorem same_eq (a1 a2 : Option Addr) (c1 c2 : Nat) (xs : List Int) (w : World) (h1 : Lies w a1 xs) (h2 : Lies w a2 xs) (hm : xs.length ≤ maxLen) :
    Calls Tryz.prog 15 #[.slice a1 xs.length c1, .slice a2 xs.length c2] w fun e w' => e = .returned (.bool true) ∧ ∃ n, w' = w.drewN n := by
  unfold maxLen at hm
  rcases h1.2 with rfl | ⟨b1, o1, rfl, hc1⟩
  · go_enter Tryz.func15, Tryz.ntmps15
    go_wp2
    go_loop [5] (fun i => i = .int .i64 0) (fun _ => 0)
    case atStart => rfl
    case round =>
      subst hrel
      go_wp2
      go_ret
      exact ⟨rfl, 0, rfl⟩
  · rcases h2.2 with rfl | ⟨b2, o2, rfl, hc2⟩
    · go_enter Tryz.func15, Tryz.ntmps15
      go_wp2
      go_loop [5] (fun i => i = .int .i64 0) (fun _ => 0)
      case atStart => rfl
      case round =>
        subst hrel
        go_wp2
        go_ret
        exact ⟨rfl, 0, rfl⟩
    · clear h1 h2
      go_enter Tryz.func15, Tryz.ntmps15
      go_wp2
      go_loopw [5] (fun i wr => ∃ k n : Nat, k ≤ xs.length ∧ i = .int .i64 k ∧ wr = w.drewN n) (fun i _ => xs.length - (intOf i).toNat)
      case atStart => exact ⟨0, 0, Nat.zero_le _, rfl, rfl⟩
      case round =>
        obtain ⟨k, n, hk, rfl, rfl⟩ := hrel
        by_cases hlt : k < xs.length
        · have q1 := hc1 k hlt
          have q2 := hc2 k hlt
          go_wp2
          go_quiet (fail)
          go_wp2
          go_roundw
          case rel => exact ⟨k + 1, n + nq, by omega, by go_num, by simp⟩
          case measure => simp [intOf]; omega
        · go_wp2
          go_ret
          exact ⟨rfl, n, rfl⟩
def cellsOf (zs : List Int) : List Value := zs.map (Value.int .u8)
theorem cellsOf_length (zs : List Int) : (cellsOf zs).length = zs.length := by simp [cellsOf]
theorem cellsOf_get (zs : List Int) (i : Nat) (h : i < zs.length) : (cellsOf zs)[i]? = some (.int .u8 (zs.getD i 0)) := by
  simp [cellsOf, List.getElem?_eq_getElem h]
def RowIs (w : World) (g : Nat) (zs : List Int) : Prop := w.heap[g]? = some (.cells (cellsOf zs).toArray 5 (0, 0))
theorem RowIs.cell {w : World} {g : Nat} {zs : List Int} (h : RowIs w g zs) (i : Nat) (hi : i < zs.length) : w.cell? ⟨g, i, none⟩ = some (.int .u8 (zs.getD i 0)) := by
  rw [cell_of_row w g i _ 5 (0, 0) h]
  simpa using cellsOf_get zs i hi
theorem RowIs.lt {w : World} {g : Nat} {zs : List Int} (h : RowIs w g zs) : g < w.heap.size := (Array.getElem?_eq_some_iff.1 h).1
theorem RowIs.below {w w' : World} {g B : Nat} {zs : List Int} (h : RowIs w g zs) (hb : Below B w w') (hg : g < B) : RowIs w' g zs := by
  unfold RowIs at h ⊢
  rw [hb.block g hg, h]
theorem Tryz.info5 : (Tryz.prog.info? 5).map (fun i => (i.zero, i.size, i.bytes)) = some (some (.int .u8 0), 1, 1) := by kernel_rfl
theorem RowIs.frozen {w : World} {g : Nat} {zs : List Int} (h : RowIs w g zs) (i : Nat) : w.frozen? ⟨g, i, none⟩ = false := frozen_of_row w g i _ 5 h
theorem RowIs.set {w : World} {g : Nat} {zs : List Int} (h : RowIs w g zs) (i : Nat) (z : Int) : RowIs (w.setCell ⟨g, i, none⟩ (.int .u8 z)) g (zs.set i z) := by
  have := heap_setCell_same w g i _ 5 (.int .u8 z) h
  unfold RowIs
  rw [this]
  simp [cellsOf, List.map_set]
theorem made_row {w : World} {base g n : Nat} (h : w.ownsRow base 5 1 (.slice (some ⟨g, 0, none⟩) n n) n (madeCells (Value.int .u8 0).cells (n * 1)).toList) : RowIs w g (List.replicate n 0) := by
  rcases h.2 with ⟨h', _⟩ | ⟨g', cap', cur, h', _, hg, _, _, hs, ht⟩
  · simp at h'
  · simp only [Value.slice.injEq, Option.some.injEq, Addr.mk.injEq, and_true, true_and] at h'
    obtain ⟨rfl, rfl⟩ := h'
    unfold RowIs
    rw [hg]
    have e : cur.toList = cellsOf (List.replicate n 0) := by
      rw [List.take_of_length_le (by simpa using Nat.le_of_eq hs)] at ht
      rw [ht]
      have : (Value.int IntKind.u8 0).cells = #[.int .u8 0] := rfl
      rw [this, toList_madeCells_one]
      simp [cellsOf]
    rw [← e]
def fillRow (zs : List Int) (m : Int) (N k : Nat) : List Int := zs ++ List.replicate (k - zs.length) m ++ List.replicate (N - k) 0
theorem fillRow_length (zs : List Int) (m : Int) (N k : Nat) (h : zs.length ≤ k) (hk : k ≤ N) : (fillRow zs m N k).length = N := by simp [fillRow]; omega
theorem fillRow_set (zs : List Int) (m : Int) (N k : Nat) (h : zs.length ≤ k) (hk : k < N) : (fillRow zs m N k).set k m = fillRow zs m N (k + 1) := by
  unfold fillRow
  rw [List.set_append_right _ _ (by simp; omega)]
  have e1 : k - (zs ++ List.replicate (k - zs.length) m).length = 0 := by simp; omega
  obtain ⟨j, hj⟩ : ∃ j, N - k = j + 1 := ⟨N - k - 1, by omega⟩
  have hj' : N - (k + 1) = j := by omega
  rw [e1, hj, hj', List.replicate_succ, List.set_cons_zero, show k + 1 - zs.length = (k - zs.length) + 1 by omega, List.replicate_succ']
  simp
theorem lies_src {w : World} {a : Option Addr} {zs : List Int} (hl : Lies w a zs) {w1 : World} (hb : Below w.heap.size w w1) (h0 : 0 < (cellsOf zs).length) :
    ∃ ad, a = some ad ∧ ∀ j v, (cellsOf zs)[j]? = some v → w1.cell? (ad.add j) = some v := by
  rcases hl.2 with rfl | ⟨b, off, rfl, hc⟩
  · simp [cellsOf] at h0
  · refine ⟨_, rfl, fun j v hj => ?_⟩
    have hlt : j < zs.length := by
      rcases Nat.lt_or_ge j zs.length with h | h
      · exact h
      · rw [List.getElem?_eq_none (by simpa [cellsOf] using h)] at hj
        cases hj
    have hadd : (⟨b, off, none⟩ : Addr).add j = ⟨b, off + j, none⟩ := by unfold Addr.add; split <;> simp_all
    rw [cellsOf_get zs j hlt] at hj
    rw [hadd, hb.cell (World.block_lt_of_cell? w _ (hc j hlt)), hc j hlt, hj]
theorem cellsOf_one (zs : List Int) : ∀ v ∈ cellsOf zs, v.oneCell' = true := by
  intro v hv
  simp [cellsOf] at hv
  obtain ⟨z, _, rfl⟩ := hv
  rfl
theorem splice_fill (zs : List Int) (m : Int) (N : Nat) (h : zs.length ≤ N) : splice (cellsOf (List.replicate N 0)) 0 (cellsOf zs) = cellsOf (fillRow zs m N zs.length) := by
  simp [splice, cellsOf, fillRow]
theorem roomy_any (a : Option Addr) (cap : Nat) (zs : List Int) (m : Int) (w : World) (hl : Lies w a zs) (hm : zs.length ≤ 140737488355328) :
    Calls Tryz.prog 16 #[.slice a zs.length cap, .int .u8 m] w fun e w' => e = .returned (.slice (some ⟨w.heap.size, 0, none⟩) (zs.length + 80) (zs.length + 80)) ∧ RowIs w' w.heap.size (zs ++ List.replicate 80 m) ∧ Below w.heap.size w w' := by
  obtain ⟨i0, hi, hz0, hz1, hz2⟩ := info_parts Tryz.info5
  go_enter Tryz.func16, Tryz.ntmps16
  go_wp2_with (first
    | (at_make; go_must (refine wpList_make_full _ rfl (.tmp 9) (.tmp 9) 22 rfl w.heap.size 5 i0 (.int .u8 0) 1 Tryz.underlying22 hi hz0 hz1 .i64 .i64 _ _ (zs.length + 80) rfl rfl (by omega) (by omega) (by rw [hz2]; omega) (by unfold maxLen; omega) (Nat.le_refl _) ?_; intro w1 hown1 hgrow1; have hr1 := made_row hown1; have hb1 : Below w.heap.size w w1 := (Below.refl _ _).grown hgrow1 (Nat.le_refl _) (fun k hk => by cases hk); clear hown1 hgrow1))
    | (refine wpList_copy_splice rfl (.tmp 11) (.tmp 12) 22 22 rfl 5 Tryz.underlying22 (by kernel_rfl) _ _ _ _ _ _ rfl rfl w.heap.size 0 (cellsOf (List.replicate (zs.length + 80) 0)) 5 hr1 (cellsOf zs) (by rw [cellsOf_length]; exact (Nat.min_eq_left (by omega)).symm) (fun h0 => ⟨rfl, lies_src hl hb1 h0⟩) (by simp [cellsOf_length]) (cellsOf_one zs) w.heap.size w hb1 (Nat.le_refl _) ?_; intro w2 hg2 hb2; rw [splice_fill zs m _ (by omega)] at hg2))
  go_loopw [6] (fun i wr => ∃ k : Nat, zs.length ≤ k ∧ k ≤ zs.length + 80 ∧ i = .int .i64 k ∧ RowIs wr w.heap.size (fillRow zs m (zs.length + 80) k) ∧ Below w.heap.size w wr) (fun i _ => zs.length + 80 - (intOf i).toNat)
  case atStart => exact ⟨zs.length, Nat.le_refl _, by omega, rfl, hg2.out, hb2⟩
  case round =>
    obtain ⟨k, hk0, hk, rfl, hrow, hbr⟩ := hrel
    by_cases hlt : k < zs.length + 80
    · have q1 := hrow.cell k (by rw [fillRow_length _ _ _ _ hk0 hk]; exact hlt)
      have q2 := hrow.frozen k
      have q3 : RowIs (wr.setCell ⟨w.heap.size, k, none⟩ (.int .u8 m)) w.heap.size (fillRow zs m (zs.length + 80) (k + 1)) := by
        rw [← fillRow_set zs m _ k hk0 hlt]; exact hrow.set k m
      have q4 : Below w.heap.size w (wr.setCell ⟨w.heap.size, k, none⟩ (.int .u8 m)) := hbr.setCell (Nat.le_refl _) _
      clear hrow
      go_wp2
      go_roundw
      case rel => exact ⟨k + 1, by omega, by omega, by go_num, q3, q4⟩
      case measure => simp [intOf]; omega
    · have e : k = zs.length + 80 := by omega
      subst e
      go_wp2
      go_ret
      exact ⟨rfl, by simpa [fillRow] using hrow, hbr⟩
theorem RowIs.lies {w : World} {g : Nat} {zs ys : List Int} (h : RowIs w g (zs ++ ys)) (hz : AreBytes zs) : Lies w (some ⟨g, 0, none⟩) zs := by
  refine ⟨hz, .inr ⟨g, 0, rfl, fun i hi => ?_⟩⟩
  have := h.cell i (by simp; omega)
  rw [Nat.zero_add, this]
  simp [List.getElem?_append_left hi]
theorem RowIs.drewN {w : World} {g : Nat} {zs : List Int} (h : RowIs w g zs) (n : Nat) : RowIs (w.drewN n) g zs := by
  have e : (w.drewN n).heap = w.heap := by simp
  unfold RowIs
  rw [e]
  exact h
theorem Lies.drewN {w : World} {a : Option Addr} {zs : List Int} (h : Lies w a zs) (n : Nat) : Lies (w.drewN n) a zs := by
  refine ⟨h.1, ?_⟩
  rcases h.2 with h | ⟨b, off, ha, hc⟩
  · exact .inl h
  · exact .inr ⟨b, off, ha, fun i hi => by rw [← hc i hi]; simp⟩
theorem Lies.below {w w' : World} {a : Option Addr} {zs : List Int} (h : Lies w a zs) (hb : Below w.heap.size w w') : Lies w' a zs := by
  refine ⟨h.1, ?_⟩
  rcases h.2 with h | ⟨b, off, ha, hc⟩
  · exact .inl h
  · exact .inr ⟨b, off, ha, fun i hi => by rw [hb.cell (World.block_lt_of_cell? w _ (hc i hi))]; exact hc i hi⟩
theorem getD_tail (zs : List Int) (m : Int) (N k : Nat) (h1 : zs.length ≤ k) (h2 : k < zs.length + N) : (zs ++ List.replicate N m).getD k 0 = m := by
  rw [List.getD_eq_getElem?_getD, List.getElem?_append_right h1, List.getElem?_replicate_of_lt (by omega)]
  rfl
theorem intact_any (a : Option Addr) (g cap : Nat) (zs : List Int) (m : Int) (w : World) (hl : Lies w a zs) (hr : RowIs w g (zs ++ List.replicate 80 m)) (hm : zs.length ≤ 140737488355328) :
    Calls Tryz.prog 19 #[.slice (some ⟨g, 0, none⟩) (zs.length + 80) (zs.length + 80), .slice a zs.length cap, .int .u8 m] w fun e w' => e = .returned (.bool true) ∧ ∃ n, w' = w.drewN n := by
  have hs := fun c => same_eq (some ⟨g, 0, none⟩) a c cap zs w (hr.lies hl.1) hl (by unfold maxLen; omega)
  have hcell : ∀ n k, zs.length ≤ k → k < zs.length + 80 → (w.drewN n).cell? ⟨g, k, none⟩ = some (.int .u8 m) := by
    intro n k h1 h2
    rw [(hr.drewN n).cell k (by rw [List.length_append, List.length_replicate]; exact h2), getD_tail zs m 80 k h1 h2]
  clear hl hr
  go_enter Tryz.func19, Tryz.ntmps19
  go_wp2_with (first | (go_at_call 15; refine (hs _).mono ?_; rintro e w' ⟨rfl, n0, rfl⟩))
  go_loop [7] (fun i => ∃ k : Nat, zs.length ≤ k ∧ k ≤ zs.length + 80 ∧ i = .int .i64 k) (fun i => zs.length + 80 - (intOf i).toNat)
  case atStart => exact ⟨zs.length, Nat.le_refl _, by omega, rfl⟩
  case round =>
    obtain ⟨k, hk0, hk, rfl⟩ := hrel
    by_cases hlt : k < zs.length + 80
    · have q := hcell n0 k hk0 hlt
      clear hcell
      go_wp2
      go_round
      case rel => exact ⟨k + 1, by omega, by omega, by go_num⟩
      case measure => simp [intOf]; omega
    · go_wp2
      go_ret
      exact ⟨rfl, n0, rfl⟩
end Go.Proofs.YtmndccbeddaphaaGreatDoor.O
namespace Go.Proofs.YtmndccbeddaphaaGreatDoor.O
open Go.ChangeShapes Go.WideShapes Go.ChangeAt Go.RowKit
set_option linter.unusedVariables false
set_option maxRecDepth 100000
def Own (w : World) (base : Nat) (v : Value) (zs : List Int) : Prop := w.ownsRow base 5 1 v zs.length (cellsOf zs)
theorem Own.mono {w : World} {base base' : Nat} {v : Value} {zs : List Int} (h : Own w base v zs) (hb : base' ≤ base) : Own w base' v zs := by
  refine ⟨h.1, ?_⟩
  rcases h.2 with h | ⟨g, cap, cur, h1, h2, h3⟩
  · exact .inl h
  · exact .inr ⟨g, cap, cur, h1, by omega, h3⟩
def leB (n : Int) : Nat → List Int
  | 0 => []
  | k + 1 => n % 256 :: leB (n / 256) k
theorem leB_length (n : Int) (k : Nat) : (leB n k).length = k := by
  induction k generalizing n with
  | zero => rfl
  | succ k ih => simp [leB, ih]
theorem leB_snoc (n : Int) (k : Nat) : leB n (k + 1) = leB n k ++ [n / 256 ^ k % 256] := by
  induction k generalizing n with
  | zero => simp [leB]
  | succ k ih =>
    rw [leB, ih (n / 256)]
    simp only [leB, List.cons_append]
    congr 3
    rw [Int.pow_succ, Int.mul_comm, Int.ediv_ediv]
    simp
theorem leB_bytes (n : Int) (k : Nat) : AreBytes (leB n k) := by
  induction k generalizing n with
  | zero => intro z hz; cases hz
  | succ k ih =>
    intro z hz
    simp only [leB, List.mem_cons] at hz
    rcases hz with rfl | hz
    · omega
    · exact ih _ z hz
def putL (zs : List Int) (n width : Int) : List Int := if isW width = true then zs ++ leB n width.toNat else zs
theorem lies_olds {w : World} {a : Option Addr} {zs : List Int} (hl : Lies w a zs) {w1 : World} (hb : Below w.heap.size w w1) :
    ∀ b, a = some b → ∀ j u, (cellsOf zs)[j]? = some u → w1.cell? (b.add j) = some u := by
  intro b hab j u hj
  have h0 : 0 < (cellsOf zs).length := by
    rcases Nat.eq_zero_or_pos (cellsOf zs).length with h | h
    · rw [List.length_eq_zero_iff.1 h] at hj; cases hj
    · exact h
  obtain ⟨ad, had, hc⟩ := lies_src hl hb h0
  rw [hab] at had
  cases had
  exact hc j u hj
theorem cut_any (a : Option Addr) (len cap : Nat) (w : World) (h : len ≤ cap) (hm : len ≤ maxLen) :
    Calls Tryz.prog 169 #[.slice a len cap] w fun e w' => e = .returned (.slice a len len) ∧ w' = w := by
  unfold maxLen at hm
  go_enter Tryz.func169, Tryz.ntmps169
  go_wp2
  go_ret
  exact ⟨rfl, rfl⟩
theorem put_bad (a : Option Addr) (cap : Nat) (zs : List Int) (n width : Int) (w : World) (hl : Lies w a zs) (hna : a = none → zs.length = 0 ∧ cap = 0) (hW : isW width = false) (hm : zs.length ≤ 140737488355328) :
    Calls Tryz.prog 133 #[.slice a zs.length cap, .int .u32 n, .int .i64 width] w fun e w' => ∃ v, e = .returned v ∧ Own w' w.heap.size v zs ∧ Below w.heap.size w w' := by
  obtain ⟨i0, hi, hz0, hz1, hz2⟩ := info_parts Tryz.info5
  cases a with
  | none =>
    obtain ⟨hz, rfl⟩ := hna rfl
    obtain rfl := List.length_eq_zero_iff.1 hz
    go_enter Tryz.func133, Tryz.ntmps133
    go_wp2_with (first
      | (go_at_call 168; refine (isWidth_any _ _).mono ?_; rintro e w' ⟨rfl, rfl⟩)
      | (at_builtin; go_must (refine wpList_append_own_none rfl (.const (.slice none 0 0)) (.tmp 11) 22 rfl w'.heap.size 5 i0 1 Tryz.underlying22 hi _ 0 [] rfl (World.ownsRow_nil _ _ _ _) rfl ?_)))
    go_ret
    exact ⟨_, rfl, World.ownsRow_nil _ _ _ _, Below.refl _ _⟩
  | some x =>
    have hc := lies_olds hl (Below.refl _ _) x rfl
    go_enter Tryz.func133, Tryz.ntmps133
    go_wp2_with (first
      | (go_at_call 168; refine (isWidth_any _ _).mono ?_; rintro e w' ⟨rfl, rfl⟩)
      | (at_builtin; go_must (refine wpList_append_own _ rfl (.const (.slice none 0 0)) (.tmp 11) 22 rfl w'.heap.size 5 i0 (.int .u8 0) 1 1 Tryz.underlying22 hi hz0 hz1 hz2 rfl (by decide) _ 0 [] rfl (World.ownsRow_nil _ _ _ _) x zs.length cap (cellsOf zs) rfl (by simp [cellsOf_length]) hc (cellsOf_one zs) (by unfold maxLen; omega) (by omega) (Nat.le_refl _) ?_); intro v' w1 hown hgrow _))
    go_ret
    refine ⟨_, rfl, ?_, ?_⟩
    · simpa [Own] using hown
    · exact (Below.refl _ _).grown hgrow (Nat.le_refl _) (fun k hk => by cases hk)
theorem own_push {w : World} {base : Nat} {v : Value} {zs : List Int} {z : Int} {k : Nat} (h : w.ownsRow base 5 1 v (zs.length + 1) (cellsOf zs ++ [.int .u8 z])) : Own w base v (zs ++ [z]) := by
  have e1 : (zs ++ [z]).length = zs.length + 1 := by simp
  have e2 : cellsOf (zs ++ [z]) = cellsOf zs ++ [.int .u8 z] := by simp [cellsOf]
  unfold Own
  rw [e1, e2]
  exact h
theorem div_step (n : Int) (j : Nat) : n / 256 ^ j / 256 = n / 256 ^ (j + 1) := by
  have h : ¬ (256 : Int) ^ j < 0 := by
    have := Int.pow_pos (n := 256) (m := j) (by omega)
    omega
  rw [Int.pow_succ, Int.ediv_ediv]
  simp [h]
theorem div_bd (n : Int) (j : Nat) (hn : 0 ≤ n ∧ n ≤ 4294967295) : 0 ≤ n / 256 ^ j ∧ n / 256 ^ j ≤ 4294967295 := by
  have hp : (0 : Int) < 256 ^ j := Int.pow_pos (by omega)
  have h1 : 0 ≤ n / 256 ^ j := Int.ediv_nonneg hn.1 (by omega)
  have h2 : n / 256 ^ j ≤ n := Int.ediv_le_self _ hn.1
  omega
theorem put_ok (a : Option Addr) (cap wd : Nat) (zs : List Int) (n : Int) (w : World) (hl : Lies w a zs) (hna : a = none → zs.length = 0 ∧ cap = 0) (hcap : zs.length ≤ cap) (hw : wd = 1 ∨ wd = 2 ∨ wd = 4) (hm : zs.length + 4 ≤ 140737488355328) (hn : 0 ≤ n ∧ n ≤ 4294967295) :
    Calls Tryz.prog 133 #[.slice a zs.length cap, .int .u32 n, .int .i64 wd] w fun e w' => ∃ v, e = .returned v ∧ Own w' w.heap.size v (zs ++ leB n wd) ∧ Below w.heap.size w w' := by
  obtain ⟨i0, hi, hz0, hz1, hz2⟩ := info_parts Tryz.info5
  have hW : isW (wd : Int) = true := by rcases hw with rfl | rfl | rfl <;> rfl
  have hw1 : 1 ≤ wd := by omega
  have hw4 : wd ≤ 4 := by omega
  have hmm : zs.length ≤ maxLen := by unfold maxLen; omega
  go_enter Tryz.func133, Tryz.ntmps133
  go_wp2_with (first
    | (go_at_call 168; refine (isWidth_any _ _).mono ?_; rintro e w' ⟨rfl, rfl⟩)
    | (go_at_call 169; refine (cut_any _ _ _ _ hcap hmm).mono ?_; rintro e w' ⟨rfl, rfl⟩))
  go_loopw [1, 7, 16] (fun nn v i wr => ∃ j : Nat, j ≤ wd ∧ i = .int .i64 j ∧ nn = .int .u32 (n / 256 ^ j) ∧ ((j = 0 ∧ v = .slice a zs.length zs.length ∧ wr = w') ∨ (1 ≤ j ∧ Own wr w'.heap.size v (zs ++ leB n j) ∧ Below w'.heap.size w' wr))) (fun _ _ i _ => wd - (intOf i).toNat)
  case atStart => exact ⟨0, Nat.zero_le _, rfl, by simp, .inl ⟨rfl, rfl, rfl⟩⟩
  case round =>
    obtain ⟨j, hj, rfl, rfl, hcase⟩ := hrel
    rcases hcase with ⟨rfl, rfl, rfl⟩ | ⟨h1, hown, hb⟩
    · have hls := lies_olds hl ((Below.refl wr.heap.size wr).alloc (Nat.le_refl _) (.cells #[.int .u8 (n % 256)] 5))
      have hnn : a = none → zs.length = 0 ∧ zs.length = 0 := fun h => ⟨(hna h).1, (hna h).1⟩
      go_wp2_with (first
        | (at_builtin; go_must (refine wpList_append_grows _ rfl (.tmp 18) (.tmp 21) 22 rfl 5 i0 (.int .u8 0) 1 1 Tryz.underlying22 hi hz0 hz1 hz2 rfl (by decide) a zs.length zs.length (cellsOf zs) rfl hnn (by simp [cellsOf_length]) hls ⟨wr.heap.size, 0, none⟩ 1 1 [.int .u8 (n % 256)] rfl rfl (cell_one_new _ _ _) (by intro u hu; simp at hu; subst hu; rfl) (by omega) (by unfold maxLen; omega) (by omega) ?_); intro v' w1 hown hgrow))
      have hown' : Own w1 wr.heap.size v' (zs ++ leB n 1) := (own_push (k := 0) hown).mono (by simp)
      have hb' : Below wr.heap.size wr w1 := ((Below.refl wr.heap.size wr).alloc (Nat.le_refl _) _).grown hgrow (by simp) (fun k hk => by cases hk)
      go_roundw
      case rel =>
        exact ⟨1, by omega, by go_num, by simp, .inr ⟨Nat.le_refl _, hown', hb'⟩⟩
      case measure => simp [intOf]; omega
    · by_cases hlt : j < wd
      · have hq : 0 ≤ n / 256 ^ j ∧ n / 256 ^ j ≤ 4294967295 := div_bd n j hn
        go_wp2_with (first
          | (at_builtin; go_must (refine wpList_append_own _ rfl (.tmp 18) (.tmp 21) 22 rfl w'.heap.size 5 i0 (.int .u8 0) 1 1 Tryz.underlying22 hi hz0 hz1 hz2 rfl (by decide) _ _ _ rfl (hown.alloc _) ⟨wr.heap.size, 0, none⟩ 1 1 [.int .u8 (n / 256 ^ j % 256)] rfl rfl (cell_one_new _ _ _) (by intro u hu; simp at hu; subst hu; rfl) (by simp [leB_length]; unfold maxLen; omega) (by simp [leB_length]; omega) (by have := hb.size; simp; omega) ?_); intro v' w1 hown1 hgrow _))
        have hown' : Own w1 w'.heap.size v' (zs ++ leB n (j + 1)) := by
          rw [leB_snoc, ← List.append_assoc]
          exact own_push (k := 0) hown1
        have hb' : Below w'.heap.size w' w1 := (hb.alloc hb.size _).grown hgrow (by have := hb.size; simp; omega) (fun k hk => (hown.lt k hk).1)
        clear hown hown1 hgrow hb
        go_roundw
        case rel =>
          exact ⟨j + 1, by omega, by go_num, by rw [div_step], .inr ⟨by omega, hown', hb'⟩⟩
        case measure => simp [intOf]; omega
      · go_wp2
        go_ret
        have e : j = wd := by omega
        subst e
        exact ⟨_, rfl, hown, hb⟩
theorem put_any (a : Option Addr) (cap : Nat) (zs : List Int) (n width : Int) (w : World) (hl : Lies w a zs) (hna : a = none → zs.length = 0 ∧ cap = 0) (hcap : zs.length ≤ cap) (hm : zs.length + 4 ≤ 140737488355328) (hn : 0 ≤ n ∧ n ≤ 4294967295) :
    Calls Tryz.prog 133 #[.slice a zs.length cap, .int .u32 n, .int .i64 width] w fun e w' => ∃ v, e = .returned v ∧ Own w' w.heap.size v (putL zs n width) ∧ Below w.heap.size w w' := by
  cases hW : isW width
  · have e : putL zs n width = zs := by simp [putL, hW]
    rw [e]
    exact put_bad a cap zs n width w hl hna hW (by omega)
  · have hc := isW_cases hW
    obtain ⟨wd, rfl⟩ : ∃ wd : Nat, width = wd := ⟨width.toNat, by omega⟩
    have e : putL zs n wd = zs ++ leB n wd := by simp [putL, hW]
    rw [e]
    exact put_ok a cap wd zs n w hl hna hcap (by omega) hm hn
def numsOf (s : ByteArray) : List Int := s.data.toList.map fun b => (b.toNat : Int)
theorem numsOf_length (s : ByteArray) : (numsOf s).length = s.size := by simp [numsOf]
theorem strCells_eq (s : ByteArray) : Lib.strCells s = cellsOf (numsOf s) := by
  simp [Lib.strCells, cellsOf, numsOf]
def putT (zs : List Int) (s : ByteArray) : List Int := zs ++ leB ((s.size : Int) % 4294967296) 2 ++ numsOf s
theorem putText_any (a : Option Addr) (cap : Nat) (zs : List Int) (s : ByteArray) (w : World) (hl : Lies w a zs) (hna : a = none → zs.length = 0 ∧ cap = 0) (hcap : zs.length ≤ cap) (hm : zs.length + 4 + s.size ≤ 140737488355328) :
    Calls Tryz.prog 112 #[.slice a zs.length cap, .string s] w fun e w' => ∃ v, e = .returned v ∧ Own w' w.heap.size v (putT zs s) ∧ Below w.heap.size w w' := by
  obtain ⟨i0, hi, hz0, hz1, hz2⟩ := info_parts Tryz.info5
  have hp := put_any a cap zs ((s.size : Int) % 4294967296) 2 w hl hna hcap (by omega) (by omega)
  have hL : (putL zs ((s.size : Int) % 4294967296) 2).length = zs.length + 2 := by simp [putL, isW, leB_length]
  go_enter Tryz.func112, Tryz.ntmps112
  go_wp2_with (first
    | (go_at_call 133; go_must (refine hp.mono ?_); rintro e w1 ⟨v, rfl, hown, hb⟩)
    | (at_builtin; go_must (refine Lib.wpList_append_own_string _ rfl (.tmp 11) (.tmp 12) 22 9 rfl w.heap.size 5 i0 Tryz.underlying22 Tryz.underlying9 hi hz0 hz1 hz2 _ _ _ rfl hown s rfl (by rw [hL]; unfold maxLen; omega) (by rw [hL]; omega) hb.size ?_); intro v' w2 hown2 hgrow2 _))
  go_ret
  refine ⟨_, rfl, ?_, hb.grown hgrow2 hb.size (fun k hk => (hown.lt k hk).1)⟩
  rw [strCells_eq] at hown2
  have e1 : putT zs s = putL zs ((s.size : Int) % 4294967296) 2 ++ numsOf s := by simp [putT, putL, isW]
  unfold Own
  rw [e1, List.length_append, numsOf_length]
  simpa [cellsOf] using hown2
theorem refPut_bad (a : Option Addr) (cap : Nat) (zs : List Int) (n width : Int) (w : World) (hl : Lies w a zs) (hna : a = none → zs.length = 0 ∧ cap = 0) (hW : isW width = false) (hm : zs.length + 4 ≤ 140737488355328) :
    Calls Tryz.prog 37 #[.slice a zs.length cap, .int .u32 n, .int .i64 width] w fun e w' => ∃ v, e = .returned v ∧ Own w' w.heap.size v zs ∧ Below w.heap.size w w' := by
  obtain ⟨i0, hi, hz0, hz1, hz2⟩ := info_parts Tryz.info5
  have hne : (width == 1) = false ∧ (width == 2) = false ∧ (width == 4) = false := by simp [isW] at hW; simp; omega
  obtain ⟨n1, n2, n4⟩ := hne
  have m1 : (width != 1) = true := by simp [bne, n1]
  have m2 : (width != 2) = true := by simp [bne, n2]
  have m4 : (width != 4) = true := by simp [bne, n4]
  cases a with
  | none =>
    obtain ⟨hz, rfl⟩ := hna rfl
    obtain rfl := List.length_eq_zero_iff.1 hz
    go_enter Tryz.func37, Tryz.ntmps37
    go_wp2_with (at_builtin; go_must (refine wpList_append_own_none rfl (.tmp 9) (.tmp 10) 22 rfl w.heap.size 5 i0 1 Tryz.underlying22 hi _ 0 [] rfl (World.ownsRow_lit w #[] 0 (Nat.le_refl _) (Nat.zero_le _) rfl) rfl ?_))
    go_ret
    exact ⟨_, rfl, World.ownsRow_lit w #[] 0 (Nat.le_refl _) (Nat.zero_le _) rfl, (Below.refl _ _).alloc (Nat.le_refl _) _⟩
  | some x =>
    have hc := lies_olds hl ((Below.refl w.heap.size w).alloc (Nat.le_refl _) (.cells #[] 5)) x rfl
    go_enter Tryz.func37, Tryz.ntmps37
    go_wp2_with (at_builtin; go_must (refine wpList_append_own _ rfl (.tmp 9) (.tmp 10) 22 rfl w.heap.size 5 i0 (.int .u8 0) 1 1 Tryz.underlying22 hi hz0 hz1 hz2 rfl (by decide) _ 0 [] rfl (World.ownsRow_lit w #[] 0 (Nat.le_refl _) (Nat.zero_le _) rfl) x zs.length cap (cellsOf zs) rfl (by simp [cellsOf_length]) hc (cellsOf_one zs) (by unfold maxLen; omega) (by omega) (by simp) ?_); intro v1 w1 hown1 hgrow1 _)
    go_ret
    refine ⟨_, rfl, ?_, ?_⟩
    · simpa [Own] using hown1
    · exact ((Below.refl _ _).alloc (Nat.le_refl _) _).grown hgrow1 (by simp) (fun k hk => by cases hk; exact Nat.le_refl _)
theorem pow256 (j : Nat) : (2 : Int) ^ (8 * j) = 256 ^ j := by rw [Int.pow_mul]; rfl
theorem refPut_some1 (x : Addr) (cap : Nat) (zs : List Int) (n : Int) (w : World) (hl : Lies w (some x) zs) (hm : zs.length + 4 ≤ 140737488355328) (hn : 0 ≤ n ∧ n ≤ 4294967295) :
    Calls Tryz.prog 37 #[.slice (some x) zs.length cap, .int .u32 n, .int .i64 1] w fun e w' => ∃ v, e = .returned v ∧ Own w' w.heap.size v (zs ++ leB n 1) ∧ Below w.heap.size w w' := by
  obtain ⟨i0, hi, hz0, hz1, hz2⟩ := info_parts Tryz.info5
  have hc := lies_olds hl ((Below.refl w.heap.size w).alloc (Nat.le_refl _) (.cells #[] 5)) x rfl
  go_enter Tryz.func37, Tryz.ntmps37
  go_wp2_with (at_builtin; go_must (refine wpList_append_own _ rfl (.tmp 9) (.tmp 10) 22 rfl w.heap.size 5 i0 (.int .u8 0) 1 1 Tryz.underlying22 hi hz0 hz1 hz2 rfl (by decide) _ 0 [] rfl (World.ownsRow_lit w #[] 0 (Nat.le_refl _) (Nat.zero_le _) rfl) x zs.length cap (cellsOf zs) rfl (by simp [cellsOf_length]) hc (cellsOf_one zs) (by unfold maxLen; omega) (by omega) (by simp) ?_); intro v1 w1 hown1 hgrow1 _)
  have hs1 : Own w1 w.heap.size v1 (zs ++ leB n 0) := by simpa [Own, leB] using hown1
  have hs2 : Below w.heap.size w w1 := ((Below.refl _ _).alloc (Nat.le_refl _) _).grown hgrow1 (by simp) (fun k hk => by cases hk; exact Nat.le_refl _)
  clear hown1 hgrow1 hc hl
  go_loopw [7, 8] (fun v i wr => ∃ j : Nat, j ≤ 1 ∧ i = .int .i64 j ∧ Own wr w.heap.size v (zs ++ leB n j) ∧ Below w.heap.size w wr) (fun _ i _ => 1 - (intOf i).toNat)
  case atStart => exact ⟨0, Nat.zero_le _, rfl, hs1, hs2⟩
  case round =>
    obtain ⟨j, hj, rfl, hown, hb⟩ := hrel
    by_cases hlt : j < 1
    · have hq : 0 ≤ n / 2 ^ (8 * j) ∧ n / 2 ^ (8 * j) ≤ 4294967295 := by rw [pow256]; exact div_bd n j hn
      go_wp2_with (at_builtin; go_must (refine wpList_append_own _ rfl (.tmp 28) (.tmp 35) 22 rfl w.heap.size 5 i0 (.int .u8 0) 1 1 Tryz.underlying22 hi hz0 hz1 hz2 rfl (by decide) _ _ _ rfl (hown.alloc _) ⟨wr.heap.size, 0, none⟩ 1 1 [.int .u8 (n / 2 ^ (8 * j) % 256)] rfl rfl (cell_one_new _ _ _) (by intro u hu; simp at hu; subst hu; rfl) (by simp [leB_length]; unfold maxLen; omega) (by simp [leB_length]; omega) (by have := hb.size; simp; omega) ?_); intro v' w2 hown2 hgrow2 _)
      have hown' : Own w2 w.heap.size v' (zs ++ leB n (j + 1)) := by
        rw [leB_snoc, ← List.append_assoc, ← pow256]
        exact own_push (k := 0) hown2
      have hb' : Below w.heap.size w w2 := (hb.alloc hb.size _).grown hgrow2 (by have := hb.size; simp; omega) (fun k hk => (hown.lt k hk).1)
      clear hown hown2 hgrow2 hb
      go_roundw
      case rel => exact ⟨j + 1, by omega, by go_num, hown', hb'⟩
      case measure => simp [intOf]; omega
    · go_wp2
      go_ret
      have e : j = 1 := by omega
      subst e
      exact ⟨_, rfl, hown, hb⟩
theorem refPut_none1 (n : Int) (w : World) (hn : 0 ≤ n ∧ n ≤ 4294967295) :
    Calls Tryz.prog 37 #[.slice none 0 0, .int .u32 n, .int .i64 1] w fun e w' => ∃ v, e = .returned v ∧ Own w' w.heap.size v (([] : List Int) ++ leB n 1) ∧ Below w.heap.size w w' := by
  obtain ⟨i0, hi, hz0, hz1, hz2⟩ := info_parts Tryz.info5
  obtain ⟨zs, hzs⟩ : ∃ zs : List Int, zs = [] := ⟨_, rfl⟩
  rw [← hzs]
  have hm : zs.length + 4 ≤ 140737488355328 := by rw [hzs]; simp
  have hs1 : Own (w.alloc (.cells #[] 5)) w.heap.size (.slice (some ⟨w.heap.size, 0, none⟩) 0 0) (zs ++ leB n 0) := by rw [hzs]; exact World.ownsRow_lit w #[] 0 (Nat.le_refl _) (Nat.zero_le _) rfl
  have hs2 : Below w.heap.size w (w.alloc (.cells #[] 5)) := (Below.refl _ _).alloc (Nat.le_refl _) _
  clear hzs
  go_enter Tryz.func37, Tryz.ntmps37
  go_wp2_with (at_builtin; go_must (refine wpList_append_own_none rfl (.tmp 9) (.tmp 10) 22 rfl w.heap.size 5 i0 1 Tryz.underlying22 hi _ 0 [] rfl (World.ownsRow_lit w #[] 0 (Nat.le_refl _) (Nat.zero_le _) rfl) rfl ?_))
  go_loopw [7, 8] (fun v i wr => ∃ j : Nat, j ≤ 1 ∧ i = .int .i64 j ∧ Own wr w.heap.size v (zs ++ leB n j) ∧ Below w.heap.size w wr) (fun _ i _ => 1 - (intOf i).toNat)
  case atStart => exact ⟨0, Nat.zero_le _, rfl, hs1, hs2⟩
  case round =>
    obtain ⟨j, hj, rfl, hown, hb⟩ := hrel
    by_cases hlt : j < 1
    · have hq : 0 ≤ n / 2 ^ (8 * j) ∧ n / 2 ^ (8 * j) ≤ 4294967295 := by rw [pow256]; exact div_bd n j hn
      go_wp2_with (at_builtin; go_must (refine wpList_append_own _ rfl (.tmp 28) (.tmp 35) 22 rfl w.heap.size 5 i0 (.int .u8 0) 1 1 Tryz.underlying22 hi hz0 hz1 hz2 rfl (by decide) _ _ _ rfl (hown.alloc _) ⟨wr.heap.size, 0, none⟩ 1 1 [.int .u8 (n / 2 ^ (8 * j) % 256)] rfl rfl (cell_one_new _ _ _) (by intro u hu; simp at hu; subst hu; rfl) (by simp [leB_length]; unfold maxLen; omega) (by simp [leB_length]; omega) (by have := hb.size; simp; omega) ?_); intro v' w2 hown2 hgrow2 _)
      have hown' : Own w2 w.heap.size v' (zs ++ leB n (j + 1)) := by
        rw [leB_snoc, ← List.append_assoc, ← pow256]
        exact own_push (k := 0) hown2
      have hb' : Below w.heap.size w w2 := (hb.alloc hb.size _).grown hgrow2 (by have := hb.size; simp; omega) (fun k hk => (hown.lt k hk).1)
      clear hown hown2 hgrow2 hb
      go_roundw
      case rel => exact ⟨j + 1, by omega, by go_num, hown', hb'⟩
      case measure => simp [intOf]; omega
    · go_wp2
      go_ret
      have e : j = 1 := by omega
      subst e
      exact ⟨_, rfl, hown, hb⟩
theorem refPut_some2 (x : Addr) (cap : Nat) (zs : List Int) (n : Int) (w : World) (hl : Lies w (some x) zs) (hm : zs.length + 4 ≤ 140737488355328) (hn : 0 ≤ n ∧ n ≤ 4294967295) :
    Calls Tryz.prog 37 #[.slice (some x) zs.length cap, .int .u32 n, .int .i64 2] w fun e w' => ∃ v, e = .returned v ∧ Own w' w.heap.size v (zs ++ leB n 2) ∧ Below w.heap.size w w' := by
  obtain ⟨i0, hi, hz0, hz1, hz2⟩ := info_parts Tryz.info5
  have hc := lies_olds hl ((Below.refl w.heap.size w).alloc (Nat.le_refl _) (.cells #[] 5)) x rfl
  go_enter Tryz.func37, Tryz.ntmps37
  go_wp2_with (at_builtin; go_must (refine wpList_append_own _ rfl (.tmp 9) (.tmp 10) 22 rfl w.heap.size 5 i0 (.int .u8 0) 1 1 Tryz.underlying22 hi hz0 hz1 hz2 rfl (by decide) _ 0 [] rfl (World.ownsRow_lit w #[] 0 (Nat.le_refl _) (Nat.zero_le _) rfl) x zs.length cap (cellsOf zs) rfl (by simp [cellsOf_length]) hc (cellsOf_one zs) (by unfold maxLen; omega) (by omega) (by simp) ?_); intro v1 w1 hown1 hgrow1 _)
  have hs1 : Own w1 w.heap.size v1 (zs ++ leB n 0) := by simpa [Own, leB] using hown1
  have hs2 : Below w.heap.size w w1 := ((Below.refl _ _).alloc (Nat.le_refl _) _).grown hgrow1 (by simp) (fun k hk => by cases hk; exact Nat.le_refl _)
  clear hown1 hgrow1 hc hl
  go_loopw [7, 8] (fun v i wr => ∃ j : Nat, j ≤ 2 ∧ i = .int .i64 j ∧ Own wr w.heap.size v (zs ++ leB n j) ∧ Below w.heap.size w wr) (fun _ i _ => 2 - (intOf i).toNat)
  case atStart => exact ⟨0, Nat.zero_le _, rfl, hs1, hs2⟩
  case round =>
    obtain ⟨j, hj, rfl, hown, hb⟩ := hrel
    by_cases hlt : j < 2
    · have hq : 0 ≤ n / 2 ^ (8 * j) ∧ n / 2 ^ (8 * j) ≤ 4294967295 := by rw [pow256]; exact div_bd n j hn
      go_wp2_with (at_builtin; go_must (refine wpList_append_own _ rfl (.tmp 28) (.tmp 35) 22 rfl w.heap.size 5 i0 (.int .u8 0) 1 1 Tryz.underlying22 hi hz0 hz1 hz2 rfl (by decide) _ _ _ rfl (hown.alloc _) ⟨wr.heap.size, 0, none⟩ 1 1 [.int .u8 (n / 2 ^ (8 * j) % 256)] rfl rfl (cell_one_new _ _ _) (by intro u hu; simp at hu; subst hu; rfl) (by simp [leB_length]; unfold maxLen; omega) (by simp [leB_length]; omega) (by have := hb.size; simp; omega) ?_); intro v' w2 hown2 hgrow2 _)
      have hown' : Own w2 w.heap.size v' (zs ++ leB n (j + 1)) := by
        rw [leB_snoc, ← List.append_assoc, ← pow256]
        exact own_push (k := 0) hown2
      have hb' : Below w.heap.size w w2 := (hb.alloc hb.size _).grown hgrow2 (by have := hb.size; simp; omega) (fun k hk => (hown.lt k hk).1)
      clear hown hown2 hgrow2 hb
      go_roundw
      case rel => exact ⟨j + 1, by omega, by go_num, hown', hb'⟩
      case measure => simp [intOf]; omega
    · go_wp2
      go_ret
      have e : j = 2 := by omega
      subst e
      exact ⟨_, rfl, hown, hb⟩
theorem refPut_none2 (n : Int) (w : World) (hn : 0 ≤ n ∧ n ≤ 4294967295) :
    Calls Tryz.prog 37 #[.slice none 0 0, .int .u32 n, .int .i64 2] w fun e w' => ∃ v, e = .returned v ∧ Own w' w.heap.size v (([] : List Int) ++ leB n 2) ∧ Below w.heap.size w w' := by
  obtain ⟨i0, hi, hz0, hz1, hz2⟩ := info_parts Tryz.info5
  obtain ⟨zs, hzs⟩ : ∃ zs : List Int, zs = [] := ⟨_, rfl⟩
  rw [← hzs]
  have hm : zs.length + 4 ≤ 140737488355328 := by rw [hzs]; simp
  have hs1 : Own (w.alloc (.cells #[] 5)) w.heap.size (.slice (some ⟨w.heap.size, 0, none⟩) 0 0) (zs ++ leB n 0) := by rw [hzs]; exact World.ownsRow_lit w #[] 0 (Nat.le_refl _) (Nat.zero_le _) rfl
  have hs2 : Below w.heap.size w (w.alloc (.cells #[] 5)) := (Below.refl _ _).alloc (Nat.le_refl _) _
  clear hzs
  go_enter Tryz.func37, Tryz.ntmps37
  go_wp2_with (at_builtin; go_must (refine wpList_append_own_none rfl (.tmp 9) (.tmp 10) 22 rfl w.heap.size 5 i0 1 Tryz.underlying22 hi _ 0 [] rfl (World.ownsRow_lit w #[] 0 (Nat.le_refl _) (Nat.zero_le _) rfl) rfl ?_))
  go_loopw [7, 8] (fun v i wr => ∃ j : Nat, j ≤ 2 ∧ i = .int .i64 j ∧ Own wr w.heap.size v (zs ++ leB n j) ∧ Below w.heap.size w wr) (fun _ i _ => 2 - (intOf i).toNat)
  case atStart => exact ⟨0, Nat.zero_le _, rfl, hs1, hs2⟩
  case round =>
    obtain ⟨j, hj, rfl, hown, hb⟩ := hrel
    by_cases hlt : j < 2
    · have hq : 0 ≤ n / 2 ^ (8 * j) ∧ n / 2 ^ (8 * j) ≤ 4294967295 := by rw [pow256]; exact div_bd n j hn
      go_wp2_with (at_builtin; go_must (refine wpList_append_own _ rfl (.tmp 28) (.tmp 35) 22 rfl w.heap.size 5 i0 (.int .u8 0) 1 1 Tryz.underlying22 hi hz0 hz1 hz2 rfl (by decide) _ _ _ rfl (hown.alloc _) ⟨wr.heap.size, 0, none⟩ 1 1 [.int .u8 (n / 2 ^ (8 * j) % 256)] rfl rfl (cell_one_new _ _ _) (by intro u hu; simp at hu; subst hu; rfl) (by simp [leB_length]; unfold maxLen; omega) (by simp [leB_length]; omega) (by have := hb.size; simp; omega) ?_); intro v' w2 hown2 hgrow2 _)
      have hown' : Own w2 w.heap.size v' (zs ++ leB n (j + 1)) := by
        rw [leB_snoc, ← List.append_assoc, ← pow256]
        exact own_push (k := 0) hown2
      have hb' : Below w.heap.size w w2 := (hb.alloc hb.size _).grown hgrow2 (by have := hb.size; simp; omega) (fun k hk => (hown.lt k hk).1)
      clear hown hown2 hgrow2 hb
      go_roundw
      case rel => exact ⟨j + 1, by omega, by go_num, hown', hb'⟩
      case measure => simp [intOf]; omega
    · go_wp2
      go_ret
      have e : j = 2 := by omega
      subst e
      exact ⟨_, rfl, hown, hb⟩
theorem refPut_some4 (x : Addr) (cap : Nat) (zs : List Int) (n : Int) (w : World) (hl : Lies w (some x) zs) (hm : zs.length + 4 ≤ 140737488355328) (hn : 0 ≤ n ∧ n ≤ 4294967295) :
    Calls Tryz.prog 37 #[.slice (some x) zs.length cap, .int .u32 n, .int .i64 4] w fun e w' => ∃ v, e = .returned v ∧ Own w' w.heap.size v (zs ++ leB n 4) ∧ Below w.heap.size w w' := by
  obtain ⟨i0, hi, hz0, hz1, hz2⟩ := info_parts Tryz.info5
  have hc := lies_olds hl ((Below.refl w.heap.size w).alloc (Nat.le_refl _) (.cells #[] 5)) x rfl
  go_enter Tryz.func37, Tryz.ntmps37
  go_wp2_with (at_builtin; go_must (refine wpList_append_own _ rfl (.tmp 9) (.tmp 10) 22 rfl w.heap.size 5 i0 (.int .u8 0) 1 1 Tryz.underlying22 hi hz0 hz1 hz2 rfl (by decide) _ 0 [] rfl (World.ownsRow_lit w #[] 0 (Nat.le_refl _) (Nat.zero_le _) rfl) x zs.length cap (cellsOf zs) rfl (by simp [cellsOf_length]) hc (cellsOf_one zs) (by unfold maxLen; omega) (by omega) (by simp) ?_); intro v1 w1 hown1 hgrow1 _)
  have hs1 : Own w1 w.heap.size v1 (zs ++ leB n 0) := by simpa [Own, leB] using hown1
  have hs2 : Below w.heap.size w w1 := ((Below.refl _ _).alloc (Nat.le_refl _) _).grown hgrow1 (by simp) (fun k hk => by cases hk; exact Nat.le_refl _)
  clear hown1 hgrow1 hc hl
  go_loopw [7, 8] (fun v i wr => ∃ j : Nat, j ≤ 4 ∧ i = .int .i64 j ∧ Own wr w.heap.size v (zs ++ leB n j) ∧ Below w.heap.size w wr) (fun _ i _ => 4 - (intOf i).toNat)
  case atStart => exact ⟨0, Nat.zero_le _, rfl, hs1, hs2⟩
  case round =>
    obtain ⟨j, hj, rfl, hown, hb⟩ := hrel
    by_cases hlt : j < 4
    · have hq : 0 ≤ n / 2 ^ (8 * j) ∧ n / 2 ^ (8 * j) ≤ 4294967295 := by rw [pow256]; exact div_bd n j hn
      go_wp2_with (at_builtin; go_must (refine wpList_append_own _ rfl (.tmp 28) (.tmp 35) 22 rfl w.heap.size 5 i0 (.int .u8 0) 1 1 Tryz.underlying22 hi hz0 hz1 hz2 rfl (by decide) _ _ _ rfl (hown.alloc _) ⟨wr.heap.size, 0, none⟩ 1 1 [.int .u8 (n / 2 ^ (8 * j) % 256)] rfl rfl (cell_one_new _ _ _) (by intro u hu; simp at hu; subst hu; rfl) (by simp [leB_length]; unfold maxLen; omega) (by simp [leB_length]; omega) (by have := hb.size; simp; omega) ?_); intro v' w2 hown2 hgrow2 _)
      have hown' : Own w2 w.heap.size v' (zs ++ leB n (j + 1)) := by
        rw [leB_snoc, ← List.append_assoc, ← pow256]
        exact own_push (k := 0) hown2
      have hb' : Below w.heap.size w w2 := (hb.alloc hb.size _).grown hgrow2 (by have := hb.size; simp; omega) (fun k hk => (hown.lt k hk).1)
      clear hown hown2 hgrow2 hb
      go_roundw
      case rel => exact ⟨j + 1, by omega, by go_num, hown', hb'⟩
      case measure => simp [intOf]; omega
    · go_wp2
      go_ret
      have e : j = 4 := by omega
      subst e
      exact ⟨_, rfl, hown, hb⟩
theorem refPut_none4 (n : Int) (w : World) (hn : 0 ≤ n ∧ n ≤ 4294967295) :
    Calls Tryz.prog 37 #[.slice none 0 0, .int .u32 n, .int .i64 4] w fun e w' => ∃ v, e = .returned v ∧ Own w' w.heap.size v (([] : List Int) ++ leB n 4) ∧ Below w.heap.size w w' := by
  obtain ⟨i0, hi, hz0, hz1, hz2⟩ := info_parts Tryz.info5
  obtain ⟨zs, hzs⟩ : ∃ zs : List Int, zs = [] := ⟨_, rfl⟩
  rw [← hzs]
  have hm : zs.length + 4 ≤ 140737488355328 := by rw [hzs]; simp
  have hs1 : Own (w.alloc (.cells #[] 5)) w.heap.size (.slice (some ⟨w.heap.size, 0, none⟩) 0 0) (zs ++ leB n 0) := by rw [hzs]; exact World.ownsRow_lit w #[] 0 (Nat.le_refl _) (Nat.zero_le _) rfl
  have hs2 : Below w.heap.size w (w.alloc (.cells #[] 5)) := (Below.refl _ _).alloc (Nat.le_refl _) _
  clear hzs
  go_enter Tryz.func37, Tryz.ntmps37
  go_wp2_with (at_builtin; go_must (refine wpList_append_own_none rfl (.tmp 9) (.tmp 10) 22 rfl w.heap.size 5 i0 1 Tryz.underlying22 hi _ 0 [] rfl (World.ownsRow_lit w #[] 0 (Nat.le_refl _) (Nat.zero_le _) rfl) rfl ?_))
  go_loopw [7, 8] (fun v i wr => ∃ j : Nat, j ≤ 4 ∧ i = .int .i64 j ∧ Own wr w.heap.size v (zs ++ leB n j) ∧ Below w.heap.size w wr) (fun _ i _ => 4 - (intOf i).toNat)
  case atStart => exact ⟨0, Nat.zero_le _, rfl, hs1, hs2⟩
  case round =>
    obtain ⟨j, hj, rfl, hown, hb⟩ := hrel
    by_cases hlt : j < 4
    · have hq : 0 ≤ n / 2 ^ (8 * j) ∧ n / 2 ^ (8 * j) ≤ 4294967295 := by rw [pow256]; exact div_bd n j hn
      go_wp2_with (at_builtin; go_must (refine wpList_append_own _ rfl (.tmp 28) (.tmp 35) 22 rfl w.heap.size 5 i0 (.int .u8 0) 1 1 Tryz.underlying22 hi hz0 hz1 hz2 rfl (by decide) _ _ _ rfl (hown.alloc _) ⟨wr.heap.size, 0, none⟩ 1 1 [.int .u8 (n / 2 ^ (8 * j) % 256)] rfl rfl (cell_one_new _ _ _) (by intro u hu; simp at hu; subst hu; rfl) (by simp [leB_length]; unfold maxLen; omega) (by simp [leB_length]; omega) (by have := hb.size; simp; omega) ?_); intro v' w2 hown2 hgrow2 _)
      have hown' : Own w2 w.heap.size v' (zs ++ leB n (j + 1)) := by
        rw [leB_snoc, ← List.append_assoc, ← pow256]
        exact own_push (k := 0) hown2
      have hb' : Below w.heap.size w w2 := (hb.alloc hb.size _).grown hgrow2 (by have := hb.size; simp; omega) (fun k hk => (hown.lt k hk).1)
      clear hown hown2 hgrow2 hb
      go_roundw
      case rel => exact ⟨j + 1, by omega, by go_num, hown', hb'⟩
      case measure => simp [intOf]; omega
    · go_wp2
      go_ret
      have e : j = 4 := by omega
      subst e
      exact ⟨_, rfl, hown, hb⟩
theorem refPut_any (a : Option Addr) (cap : Nat) (zs : List Int) (n width : Int) (w : World) (hl : Lies w a zs) (hna : a = none → zs.length = 0 ∧ cap = 0) (hm : zs.length + 4 ≤ 140737488355328) (hn : 0 ≤ n ∧ n ≤ 4294967295) :
    Calls Tryz.prog 37 #[.slice a zs.length cap, .int .u32 n, .int .i64 width] w fun e w' => ∃ v, e = .returned v ∧ Own w' w.heap.size v (putL zs n width) ∧ Below w.heap.size w w' := by
  cases hW : isW width
  · have e : putL zs n width = zs := by simp [putL, hW]
    rw [e]
    exact refPut_bad a cap zs n width w hl hna hW hm
  · have e : putL zs n width = zs ++ leB n width.toNat := by simp [putL, hW]
    rw [e]
    cases a with
    | none =>
      obtain ⟨hz, rfl⟩ := hna rfl
      obtain rfl := List.length_eq_zero_iff.1 hz
      rcases isW_cases hW with rfl | rfl | rfl
      · exact refPut_none1 n w hn
      · exact refPut_none2 n w hn
      · exact refPut_none4 n w hn
    | some x =>
      rcases isW_cases hW with rfl | rfl | rfl
      · exact refPut_some1 x cap zs n w hl hm hn
      · exact refPut_some2 x cap zs n w hl hm hn
      · exact refPut_some4 x cap zs n w hl hm hn
theorem leB_mod (m : Int) : leB (m % 65536 % 4294967296) 2 = leB (m % 4294967296) 2 := by
  simp only [leB]
  congr 1
  · omega
  · congr 1
    omega
theorem refPutText_any (a : Option Addr) (cap : Nat) (zs : List Int) (s : ByteArray) (w : World) (hl : Lies w a zs) (hna : a = none → zs.length = 0 ∧ cap = 0) (hm : zs.length + 4 + s.size ≤ 140737488355328) :
    Calls Tryz.prog 40 #[.slice a zs.length cap, .string s] w fun e w' => ∃ v, e = .returned v ∧ Own w' w.heap.size v (putT zs s) ∧ Below w.heap.size w w' := by
  obtain ⟨i0, hi, hz0, hz1, hz2⟩ := info_parts Tryz.info5
  have hp := refPut_any a cap zs ((s.size : Int) % 65536) 2 w hl hna (by omega) (by omega)
  have hL : (putL zs ((s.size : Int) % 65536) 2).length = zs.length + 2 := by simp [putL, isW, leB_length]
  go_enter Tryz.func40, Tryz.ntmps40
  go_wp2_with (first
    | (go_at_call 37; go_must (refine hp.mono ?_); rintro e w1 ⟨v, rfl, hown, hb⟩)
    | (at_builtin; go_must (refine Lib.wpList_append_own_string _ rfl (.tmp 10) (.tmp 11) 22 9 rfl w.heap.size 5 i0 Tryz.underlying22 Tryz.underlying9 hi hz0 hz1 hz2 _ _ _ rfl hown s rfl (by rw [hL]; unfold maxLen; omega) (by rw [hL]; omega) hb.size ?_); intro v' w2 hown2 hgrow2 _))
  go_ret
  refine ⟨_, rfl, ?_, hb.grown hgrow2 hb.size (fun k hk => (hown.lt k hk).1)⟩
  rw [strCells_eq] at hown2
  have e0 : leB ((s.size : Int) % 65536) 2 = leB ((s.size : Int) % 4294967296) 2 := by
    rw [← leB_mod]
    congr 1
    omega
  have e1 : putT zs s = putL zs ((s.size : Int) % 65536) 2 ++ numsOf s := by simp [putT, putL, isW, e0]
  unfold Own
  rw [e1, List.length_append, numsOf_length]
  simpa [cellsOf] using hown2
end Go.Proofs.YtmndccbeddaphaaGreatDoor.O
namespace Go.Proofs.YtmndccbeddaphaaGreatDoor.O
open Go.ChangeShapes Go.WideShapes Go.ChangeAt Go.RowKit
set_option linter.unusedVariables false
def Got (w : World) (base : Nat) (a : Option Addr) (c : Nat) (zs : List Int) : Prop := Own w base (.slice a zs.length c) zs
theorem own_got {w : World} {base : Nat} {v : Value} {zs : List Int} (h : Own w base v zs) : ∃ a c, v = .slice a zs.length c ∧ Got w base a c zs := by
  have h' := h
  rcases h.2 with ⟨rfl, hn⟩ | ⟨g, cap, cur, rfl, hb, hg, hr⟩
  · exact ⟨none, 0, by rw [hn], by unfold Got; rw [hn]; exact h'⟩
  · exact ⟨_, _, rfl, h'⟩
theorem Got.lies {w : World} {base : Nat} {a : Option Addr} {c : Nat} {zs : List Int} (h : Got w base a c zs) (hz : AreBytes zs) : Lies w a zs := by
  refine ⟨hz, ?_⟩
  rcases h.2 with ⟨h1, hn⟩ | ⟨g, cap, cur, h1, hb, hg, hr⟩
  · exact .inl (List.length_eq_zero_iff.1 hn)
  · simp only [Value.slice.injEq, true_and] at h1
    obtain ⟨rfl, rfl⟩ := h1
    refine .inr ⟨g, 0, rfl, fun i hi => ?_⟩
    rw [Nat.zero_add, World.ownsRow.cellAt h i (by omega)]
    exact cellsOf_get zs i hi
theorem Got.none {w : World} {base : Nat} {a : Option Addr} {c : Nat} {zs : List Int} (h : Got w base a c zs) : a = none → zs.length = 0 ∧ c = 0 := by
  intro ha
  rcases h.2 with ⟨h1, hn⟩ | ⟨g, cap, cur, h1, hb, hg, hr⟩
  · simp only [Value.slice.injEq] at h1
    exact ⟨hn, h1.2.2⟩
  · simp only [Value.slice.injEq] at h1
    rw [ha] at h1
    cases h1.1
theorem Got.cap {w : World} {base : Nat} {a : Option Addr} {c : Nat} {zs : List Int} (h : Got w base a c zs) : zs.length ≤ c := by
  rcases h.2 with ⟨h1, hn⟩ | ⟨g, cap, cur, h1, hb, hg, hr, _⟩
  · omega
  · simp only [Value.slice.injEq] at h1
    omega
theorem putL_bytes (zs : List Int) (n width : Int) (hz : AreBytes zs) : AreBytes (putL zs n width) := by
  unfold putL
  split
  · intro z hm
    rcases List.mem_append.1 hm with h | h
    · exact hz z h
    · exact leB_bytes _ _ z h
  · exact hz
theorem numsOf_bytes (s : ByteArray) : AreBytes (numsOf s) := by
  intro z hz
  simp [numsOf] at hz
  obtain ⟨b, _, rfl⟩ := hz
  have := b.toNat_lt
  omega
theorem putT_bytes (zs : List Int) (s : ByteArray) (hz : AreBytes zs) : AreBytes (putT zs s) := by
  intro z hm
  simp only [putT, List.mem_append] at hm
  rcases hm with (h | h) | h
  · exact hz z h
  · exact leB_bytes _ _ z h
  · exact numsOf_bytes _ z h
theorem putL_length (zs : List Int) (n width : Int) : (putL zs n width).length ≤ zs.length + 4 := by
  unfold putL
  split
  · rename_i h
    have := isW_cases h
    simp [leB_length]
    omega
  · omega
theorem putT_length (zs : List Int) (s : ByteArray) : (putT zs s).length = zs.length + 2 + s.size := by simp [putT, leB_length, numsOf_length]; omega
theorem put_got (a : Option Addr) (cap : Nat) (zs : List Int) (n width : Int) (w : World) (hl : Lies w a zs) (hna : a = none → zs.length = 0 ∧ cap = 0) (hcap : zs.length ≤ cap) (hm : zs.length + 4 ≤ 140737488355328) (hn : 0 ≤ n ∧ n ≤ 4294967295) :
    Calls Tryz.prog 133 #[.slice a zs.length cap, .int .u32 n, .int .i64 width] w fun e w' => ∃ a' c', e = .returned (.slice a' (putL zs n width).length c') ∧ Got w' w.heap.size a' c' (putL zs n width) ∧ Below w.heap.size w w' := by
  refine (put_any a cap zs n width w hl hna hcap hm hn).mono ?_
  rintro e w' ⟨v, rfl, hown, hb⟩
  obtain ⟨a', c', rfl, hg⟩ := own_got hown
  exact ⟨a', c', rfl, hg, hb⟩
theorem putText_got (a : Option Addr) (cap : Nat) (zs : List Int) (s : ByteArray) (w : World) (hl : Lies w a zs) (hna : a = none → zs.length = 0 ∧ cap = 0) (hcap : zs.length ≤ cap) (hm : zs.length + 4 + s.size ≤ 140737488355328) :
    Calls Tryz.prog 112 #[.slice a zs.length cap, .string s] w fun e w' => ∃ a' c', e = .returned (.slice a' (putT zs s).length c') ∧ Got w' w.heap.size a' c' (putT zs s) ∧ Below w.heap.size w w' := by
  refine (putText_any a cap zs s w hl hna hcap hm).mono ?_
  rintro e w' ⟨v, rfl, hown, hb⟩
  obtain ⟨a', c', rfl, hg⟩ := own_got hown
  exact ⟨a', c', rfl, hg, hb⟩
theorem refPut_got (a : Option Addr) (cap : Nat) (zs : List Int) (n width : Int) (w : World) (hl : Lies w a zs) (hna : a = none → zs.length = 0 ∧ cap = 0) (hm : zs.length + 4 ≤ 140737488355328) (hn : 0 ≤ n ∧ n ≤ 4294967295) :
    Calls Tryz.prog 37 #[.slice a zs.length cap, .int .u32 n, .int .i64 width] w fun e w' => ∃ a' c', e = .returned (.slice a' (putL zs n width).length c') ∧ Got w' w.heap.size a' c' (putL zs n width) ∧ Below w.heap.size w w' := by
  refine (refPut_any a cap zs n width w hl hna hm hn).mono ?_
  rintro e w' ⟨v, rfl, hown, hb⟩
  obtain ⟨a', c', rfl, hg⟩ := own_got hown
  exact ⟨a', c', rfl, hg, hb⟩
theorem refPutText_got (a : Option Addr) (cap : Nat) (zs : List Int) (s : ByteArray) (w : World) (hl : Lies w a zs) (hna : a = none → zs.length = 0 ∧ cap = 0) (hm : zs.length + 4 + s.size ≤ 140737488355328) :
    Calls Tryz.prog 40 #[.slice a zs.length cap, .string s] w fun e w' => ∃ a' c', e = .returned (.slice a' (putT zs s).length c') ∧ Got w' w.heap.size a' c' (putT zs s) ∧ Below w.heap.size w w' := by
  refine (refPutText_any a cap zs s w hl hna hm).mono ?_
  rintro e w' ⟨v, rfl, hown, hb⟩
  obtain ⟨a', c', rfl, hg⟩ := own_got hown
  exact ⟨a', c', rfl, hg, hb⟩
theorem same_bel (a1 a2 : Option Addr) (c1 c2 : Nat) (xs : List Int) (w : World) (h1 : Lies w a1 xs) (h2 : Lies w a2 xs) (hm : xs.length ≤ maxLen) :
    Calls Tryz.prog 15 #[.slice a1 xs.length c1, .slice a2 xs.length c2] w fun e w' => e = .returned (.bool true) ∧ Below w.heap.size w w' := by
  refine (same_eq a1 a2 c1 c2 xs w h1 h2 hm).mono ?_
  rintro e w' ⟨rfl, n, rfl⟩
  exact ⟨rfl, below_drewN (Below.refl _ _) n⟩
theorem intact_bel (a : Option Addr) (g cap : Nat) (zs : List Int) (m : Int) (w : World) (hl : Lies w a zs) (hr : RowIs w g (zs ++ List.replicate 80 m)) (hm : zs.length ≤ 140737488355328) :
    Calls Tryz.prog 19 #[.slice (some ⟨g, 0, none⟩) (zs.length + 80) (zs.length + 80), .slice a zs.length cap, .int .u8 m] w fun e w' => e = .returned (.bool true) ∧ Below w.heap.size w w' := by
  refine (intact_any a g cap zs m w hl hr hm).mono ?_
  rintro e w' ⟨rfl, n, rfl⟩
  exact ⟨rfl, below_drewN (Below.refl _ _) n⟩
theorem Below.go {w w1 w2 : World} (h : Below w.heap.size w w1) (h2 : Below w1.heap.size w1 w2) : Below w.heap.size w w2 := h.trans (h2.mono h.size)
theorem RowIs.on {w w' : World} {g : Nat} {zs : List Int} (h : RowIs w g zs) (hb : Below w.heap.size w w') : RowIs w' g zs := h.below hb h.lt
end Go.Proofs.YtmndccbeddaphaaGreatDoor.O
namespace Go.Proofs.YtmndccbeddaphaaGreatDoor
set_option linter.unusedVariables false
def onsOf (ops : Array Oper) (j : Nat) : List Nat := ((ops[j]?).map fun o => (o.after.toList.filter fun e => Region.binds .any e).map (·.on)).getD []
def markF (ops : Array Oper) : Nat → List Nat → List Nat
  | 0, s => s
  | j + 1, s => markF ops j (if s.contains j then onsOf ops j ++ s else s)
def lastB (ops : Array Oper) (L : Nat) : Bool := (List.range ops.size).all fun j => (markF ops ops.size [L]).contains j && (onsOf ops j).all fun i => decide (i < j)
def ClosedL (ops : Array Oper) (listed : Array Bool) : Prop := ∀ j oj, ops[j]? = some oj → listed.getD j false = true → ∀ e ∈ oj.after, Region.binds .any e = true → listed.getD e.on false = true
theorem mem_ons {ops : Array Oper} {j i : Nat} : i ∈ onsOf ops j ↔ ∃ o, ops[j]? = some o ∧ ∃ e ∈ o.after, Region.binds .any e = true ∧ e.on = i := by
  unfold onsOf
  cases h : ops[j]? with
  | none => simp
  | some o => simp [and_assoc]
theorem mark_listed {ops : Array Oper} {listed : Array Bool} (hc : ClosedL ops listed) {L : Nat} (hL : L ∈ Region.ready .any ops listed) : ∀ (n : Nat) (s : List Nat), (∀ j ∈ s, j = L ∨ listed.getD j false = true) → ∀ j ∈ markF ops n s, j = L ∨ listed.getD j false = true := by
  intro n
  induction n with
  | zero => intro s h; exact h
  | succ n ih =>
    intro s h
    refine ih _ ?_
    by_cases hn : s.contains n = true
    · rw [if_pos hn]
      intro j hj
      rcases List.mem_append.1 hj with hj | hj
      · obtain ⟨o, ho, e, he, hb, rfl⟩ := mem_ons.1 hj
        right
        rcases h n (by simpa using hn) with rfl | hl
        · obtain ⟨_, o', ho', hall⟩ := mem_ready.1 hL
          rw [ho] at ho'
          cases ho'
          exact hall e he hb
        · exact hc n o ho hl e he hb
      · exact h j hj
    · rw [if_neg hn]
      exact h
theorem last_all {ops : Array Oper} {listed : Array Bool} (hc : ClosedL ops listed) {L : Nat} (hL : L ∈ Region.ready .any ops listed) (hb : lastB ops L = true) {j : Nat} (hj : j < ops.size) (hne : j ≠ L) : listed.getD j false = true := by
  have h := List.all_eq_true.1 hb j (List.mem_range.2 hj)
  simp only [Bool.and_eq_true] at h
  rcases mark_listed hc hL ops.size [L] (fun i hi => .inl (by simpa using hi)) j (by simpa using h.1) with h1 | h1
  · exact absurd h1 hne
  · exact h1
theorem some_ready {ops : Array Oper} {listed : Array Bool} {L : Nat} (hb : lastB ops L = true) (hs : listed.size = ops.size) : ∀ (n : Nat), n < ops.size → listed.getD n true = false → Region.ready .any ops listed ≠ [] := by
  intro n
  induction n using Nat.strongRecOn with
  | _ n ih =>
    intro hn hl h0
    by_cases hr : n ∈ Region.ready .any ops listed
    · rw [h0] at hr; cases hr
    · have h := List.all_eq_true.1 hb n (List.mem_range.2 hn)
      simp only [Bool.and_eq_true, List.all_eq_true, decide_eq_true_eq] at h
      apply hr
      refine mem_ready.2 ⟨hl, ops[n], Array.getElem?_eq_getElem hn, fun e he hbd => ?_⟩
      have hlt := h.2 e.on (mem_ons.2 ⟨_, Array.getElem?_eq_getElem hn, e, he, hbd, rfl⟩)
      cases hd : listed.getD e.on false with
      | true => rfl
      | false =>
        exfalso
        refine ih e.on hlt (by omega) ?_ h0
        have : e.on < listed.size := by omega
        simp [this] at hd ⊢
        exact hd
def noOp (o : Oper) : Oper := { o with op := .move (.const (.int .i64 0)), dst := none }
def lastQ (P : Program) (oL : Oper) (Q : Exit → Act → World → Prop) : Exit → Act → World → Prop := fun e a w => match e with
  | .normal => oL.wp P a w (fun a' w' => Q .normal a' w') Q
  | e => Q e a w
section
variable {P : Program} {ops : Array Oper} {Q : Exit → Act → World → Prop} {L : Nat} {oL : Oper}
theorem ready_swap (hL : ops[L]? = some oL) (listed : Array Bool) : Region.ready .any (ops.setIfInBounds L (noOp oL)) listed = Region.ready .any ops listed := by
  unfold Region.ready
  rw [Array.size_setIfInBounds]
  congr 1
  funext i
  by_cases h : L = i
  · subst h
    have hlt : L < ops.size := (Array.getElem?_eq_some_iff.1 hL).1
    rw [Array.getElem?_setIfInBounds_self_of_lt hlt, hL]
    rfl
  · rw [Array.getElem?_setIfInBounds_ne h]
theorem yielded_swap (hL : ops[L]? = some oL) (hd : oL.dst = none) (tmps : Array Value) : yielded (ops.setIfInBounds L (noOp oL)) tmps = yielded ops tmps := by
  funext i
  unfold yielded
  by_cases h : L = i
  · subst h
    have hlt : L < ops.size := (Array.getElem?_eq_some_iff.1 hL).1
    rw [Array.getElem?_setIfInBounds_self_of_lt hlt, hL]
    simp [noOp, hd]
  · rw [Array.getElem?_setIfInBounds_ne h]
theorem wpO_post {o : Oper} {a : Act} {w : World} {K : Act → World → Prop} {Q Q2 : Exit → Act → World → Prop} (hp : ∀ c a w, Q2 (.panic c) a w → Q (.panic c) a w) (ho : LetsOut Q2 → LetsOut Q) (h : o.wp P a w K Q2) : o.wp P a w K Q := by
  unfold Oper.wp at *
  generalize (execOp a.eval o).run P w = r at *
  cases r with
  | ok n w' =>
    cases n <;> simp only [Oper.upon] at h ⊢ <;>
      first
        | exact h
        | exact Calls.mono h (fun e w'' he => by cases e <;> first | exact he | exact hp _ _ _ he | exact ho he)
  | halt x w' => cases x <;> simp only [Oper.upon] at h ⊢ <;> exact hp _ _ _ h
theorem lets_last (h : LetsOut (lastQ P oL Q)) : LetsOut Q := h
theorem any_swap (hL : ops[L]? = some oL) (hd : oL.dst = none) (hg : oL.guard = none) (hb : lastB ops L = true) :
    ∀ (fuel : Nat) (listed : Array Bool) (a : Act) (w : World), ClosedL ops listed → listed.size = ops.size → listed.getD L true = false → wpAny P .any (ops.setIfInBounds L (noOp oL)) (lastQ P oL Q) fuel listed a w → wpAny P .any ops Q fuel listed a w := by
  have hlt : L < ops.size := (Array.getElem?_eq_some_iff.1 hL).1
  intro fuel
  induction fuel with
  | zero =>
    intro listed a w hc hs hu h
    exact absurd (by rw [← ready_swap hL]; exact h.1) (some_ready hb hs L hlt hu)
  | succ fuel ih =>
    intro listed a w hc hs hu h
    refine ⟨fun h0 => absurd h0 (some_ready hb hs L hlt hu), fun i hi => ?_⟩
    have h1 := h.2 i (by rw [ready_swap hL]; exact hi)
    by_cases e : L = i
    · subst e
      have hr0 : Region.ready .any ops (listed.setIfInBounds L true) = [] := by
        apply List.eq_nil_iff_forall_not_mem.2
        intro j hj
        obtain ⟨hj0, o, ho, _⟩ := mem_ready.1 hj
        have hjs : j < ops.size := (Array.getElem?_eq_some_iff.1 ho).1
        by_cases ej : L = j
        · subst ej
          have : L < listed.size := by omega
          simp [this] at hj0
        · rw [getD_set_ne true ej] at hj0
          have := last_all hc hi hb hjs (Ne.symm ej)
          have hl : j < listed.size := by omega
          simp [hl] at this hj0
          rw [this] at hj0
          cases hj0
      have h2 : wpAny P .any (ops.setIfInBounds L (noOp oL)) (lastQ P oL Q) fuel (listed.setIfInBounds L true) a w := by
        unfold wpOp at h1
        rw [Array.getElem?_setIfInBounds_self_of_lt hlt] at h1
        have hw : Region.wanted (noOp oL) (yielded (ops.setIfInBounds L (noOp oL)) a.tmps) = true := by simp [Region.wanted, noOp, hg]
        simp only [hw, if_true] at h1
        rcases h1 with h1 | h1
        · unfold Oper.wp at h1
          simpa [execOp, noOp, Oper.upon, Act.put] using h1
        · obtain ⟨h1, _⟩ := h1
          have h2 : noRoomEvent ∈ (((pure (.value (a.eval (.const (.int .i64 0)))) : Sem Next)).runT P w #[]).2 := h1.1
          have h3 : (((pure (.value (a.eval (.const (.int .i64 0)))) : Sem Next)).runT P w #[]).2 = #[] := rfl
          rw [h3] at h2
          simp at h2
      have h3 : lastQ P oL Q .normal a w := by
        cases fuel with
        | zero => exact h2.2
        | succ f => exact h2.1 (by rw [ready_swap hL]; exact hr0)
      unfold wpOp
      rw [hL]
      have hw : Region.wanted oL (yielded ops a.tmps) = true := by simp [Region.wanted, hg]
      simp only [hw, if_true]
      exact .inl (Oper.wp_mono (fun a' w' hq => wpAny_done hr0 hq fuel) h3)
    · have hu' : (listed.setIfInBounds i true).getD L true = false := by rw [getD_set_ne true (Ne.symm e)]; exact hu
      have hc' : ClosedL ops (listed.setIfInBounds i true) := by
        intro j oj hj hl ed he hbd
        by_cases ej : i = j
        · subst ej
          obtain ⟨_, o, ho, hall⟩ := mem_ready.1 hi
          rw [hj] at ho
          cases ho
          exact getD_set_true (hall ed he hbd)
        · rw [getD_set_ne false ej] at hl
          exact getD_set_true (hc j oj hj hl ed he hbd)
      have h2 := wpOp_mono (fun a' w' h => ih (listed.setIfInBounds i true) a' w' hc' (by simpa using hs) hu' h) h1
      unfold wpOp at h2 ⊢
      rw [Array.getElem?_setIfInBounds_ne e] at h2
      cases ho : ops[i]? with
      | none => simpa [ho] using h2
      | some o =>
        simp only [ho, yielded_swap hL hd] at h2 ⊢
        split
        · rename_i hw
          simp only [hw, if_true] at h2
          rcases h2 with h2 | ⟨h2, h3⟩
          · exact .inl (wpO_post (fun c a w h => h) (lets_last (P := P) (oL := oL)) h2)
          · exact .inr ⟨h2, lets_last (P := P) (oL := oL) h3⟩
        · rename_i hw
          simpa [hw] using h2
theorem wp_region_last {id : Nat} {a : Act} {w : World} (hm : P.follows .mixedOrders = true) (L : Nat) (oL : Oper) (hL : ops[L]? = some oL) (hd : oL.dst = none) (hg : oL.guard = none) (hb : lastB ops L = true) (S : World → Prop) (hS : S w.drew)
    (h : S w.drew → wpAnyH P .any (ops.setIfInBounds L (noOp oL)) (lastQ P oL Q) S ops.size (Array.replicate ops.size false) a w.drew) : (Code.region id ops true).wp P Q a w := by
  have hlt : L < ops.size := (Array.getElem?_eq_some_iff.1 hL).1
  refine wp_region_any hm (any_swap hL hd hg hb ops.size _ a _ ?_ (by simp) (by simp [hlt]) (wpAny_of_held _ _ _ _ (h hS)))
  intro j oj hj hl
  have hj' : j < ops.size := (Array.getElem?_eq_some_iff.1 hj).1
  simp [hj'] at hl
end
end Go.Proofs.YtmndccbeddaphaaGreatDoor
