/- Contracts of the book of memory's Same, Roomy and Intact, over bytes. -/
import Derived.Test.YthboapfbgdcdoaaDoorOLies
import Derived.Deep.QuietTactic
import Derived.BigQuiet
import Derived.WalkSmall
import Derived.WalkSpells
import Derived.Laws.CopyOwn
namespace Go.Proofs.YthboapfbgdcdoaaDoor
open Go.ChangeShapes Go.WideShapes Go.ChangeAt Go.RowKit
set_option linter.unusedVariables false

theorem same_eq (a1 a2 : Option Addr) (c1 c2 : Nat) (xs : List Int) (w : World) (h1 : Lies w a1 xs) (h2 : Lies w a2 xs) (hm : xs.length ≤ maxLen) :
    Calls Tryd.prog 30 #[.slice a1 xs.length c1, .slice a2 xs.length c2] w fun e w' => e = .returned (.bool true) ∧ ∃ n, w' = w.drewN n := by
  unfold maxLen at hm
  rcases h1.2 with rfl | ⟨b1, o1, rfl, hc1⟩
  · go_enter Tryd.func30, Tryd.ntmps30
    go_wp2
    go_loop [5] (fun i => i = .int .i64 0) (fun _ => 0)
    case atStart => rfl
    case round =>
      subst hrel
      go_wp2
      go_ret
      exact ⟨rfl, 0, rfl⟩
  · rcases h2.2 with rfl | ⟨b2, o2, rfl, hc2⟩
    · go_enter Tryd.func30, Tryd.ntmps30
      go_wp2
      go_loop [5] (fun i => i = .int .i64 0) (fun _ => 0)
      case atStart => rfl
      case round =>
        subst hrel
        go_wp2
        go_ret
        exact ⟨rfl, 0, rfl⟩
    · clear h1 h2
      go_enter Tryd.func30, Tryd.ntmps30
      go_wp2
      go_loopw [5] (fun i wr => ∃ k n : Nat, k ≤ xs.length ∧ i = .int .i64 k ∧ wr = w.drewN n) (fun i _ => xs.length - (intOf i).toNat)
      case atStart => exact ⟨0, 0, Nat.zero_le _, rfl, rfl⟩
      case round =>
        obtain ⟨k, n, hk, rfl, rfl⟩ := hrel
        by_cases hlt : k < xs.length
        · have q1 := hc1 k hlt
          have q2 := hc2 k hlt
          go_wp2
          go_quiet (fail)
          go_wp2
          go_roundw
          case rel => exact ⟨k + 1, n + nq, by omega, by go_num, by simp⟩
          case measure => simp [intOf]; omega
        · go_wp2
          go_ret
          exact ⟨rfl, n, rfl⟩

def cellsOf (zs : List Int) : List Value := zs.map (Value.int .u8)
theorem cellsOf_length (zs : List Int) : (cellsOf zs).length = zs.length := by simp [cellsOf]
theorem cellsOf_get (zs : List Int) (i : Nat) (h : i < zs.length) : (cellsOf zs)[i]? = some (.int .u8 (zs.getD i 0)) := by
  simp [cellsOf, List.getElem?_eq_getElem h]

theorem Tryd.info5 : (Tryd.prog.info? 5).map (fun i => (i.zero, i.size, i.bytes)) = some (some (.int .u8 0), 1, 1) := by kernel_rfl

/-- a row of N bytes: zs, then marks up to place k, then noughts -/
def fillRow (zs : List Int) (m : Int) (N k : Nat) : List Int := zs ++ List.replicate (k - zs.length) m ++ List.replicate (N - k) 0
theorem fillRow_length (zs : List Int) (m : Int) (N k : Nat) (h : zs.length ≤ k) (hk : k ≤ N) : (fillRow zs m N k).length = N := by simp [fillRow]; omega
theorem fillRow_set (zs : List Int) (m : Int) (N k : Nat) (h : zs.length ≤ k) (hk : k < N) : (fillRow zs m N k).set k m = fillRow zs m N (k + 1) := by
  unfold fillRow
  rw [List.set_append_right _ _ (by simp; omega)]
  have e1 : k - (zs ++ List.replicate (k - zs.length) m).length = 0 := by simp; omega
  obtain ⟨j, hj⟩ : ∃ j, N - k = j + 1 := ⟨N - k - 1, by omega⟩
  have hj' : N - (k + 1) = j := by omega
  rw [e1, hj, hj', List.replicate_succ, List.set_cons_zero, show k + 1 - zs.length = (k - zs.length) + 1 by omega, List.replicate_succ']
  simp

theorem lies_src {w : World} {a : Option Addr} {zs : List Int} (hl : Lies w a zs) {w1 : World} (hb : Below w.heap.size w w1) (h0 : 0 < (cellsOf zs).length) :
    ∃ ad, a = some ad ∧ ∀ j v, (cellsOf zs)[j]? = some v → w1.cell? (ad.add j) = some v := by
  rcases hl.2 with rfl | ⟨b, off, rfl, hc⟩
  · simp [cellsOf] at h0
  · refine ⟨_, rfl, fun j v hj => ?_⟩
    have hlt : j < zs.length := by
      rcases Nat.lt_or_ge j zs.length with h | h
      · exact h
      · rw [List.getElem?_eq_none (by simpa [cellsOf] using h)] at hj
        cases hj
    have hadd : (⟨b, off, none⟩ : Addr).add j = ⟨b, off + j, none⟩ := by unfold Addr.add; split <;> simp_all
    rw [cellsOf_get zs j hlt] at hj
    rw [hadd, hb.cell (World.block_lt_of_cell? w _ (hc j hlt)), hc j hlt, hj]
theorem cellsOf_one (zs : List Int) : ∀ v ∈ cellsOf zs, v.oneCell' = true := by
  intro v hv
  simp [cellsOf] at hv
  obtain ⟨z, _, rfl⟩ := hv
  rfl
theorem splice_fill (zs : List Int) (m : Int) (N : Nat) (h : zs.length ≤ N) : splice (cellsOf (List.replicate N 0)) 0 (cellsOf zs) = cellsOf (fillRow zs m N zs.length) := by
  simp [splice, cellsOf, fillRow]

theorem Lies.drewN {w : World} {a : Option Addr} {zs : List Int} (h : Lies w a zs) (n : Nat) : Lies (w.drewN n) a zs := by
  refine ⟨h.1, ?_⟩
  rcases h.2 with h | ⟨b, off, ha, hc⟩
  · exact .inl h
  · exact .inr ⟨b, off, ha, fun i hi => by rw [← hc i hi]; simp⟩
theorem Lies.below {w w' : World} {a : Option Addr} {zs : List Int} (h : Lies w a zs) (hb : Below w.heap.size w w') : Lies w' a zs := by
  refine ⟨h.1, ?_⟩
  rcases h.2 with h | ⟨b, off, ha, hc⟩
  · exact .inl h
  · exact .inr ⟨b, off, ha, fun i hi => by rw [hb.cell (World.block_lt_of_cell? w _ (hc i hi))]; exact hc i hi⟩

theorem getD_tail (zs : List Int) (m : Int) (N k : Nat) (h1 : zs.length ≤ k) (h2 : k < zs.length + N) : (zs ++ List.replicate N m).getD k 0 = m := by
  rw [List.getD_eq_getElem?_getD, List.getElem?_append_right h1, List.getElem?_replicate_of_lt (by omega)]
  rfl

end Go.Proofs.YthboapfbgdcdoaaDoor
