/- The walk of the statement OctetPuts, where the bytes and the text are of at most some million letters. -/
import Derived.Test.YthboapfbgdcdoaaDoorOPut
namespace Go.Proofs.YthboapfbgdcdoaaDoor
open Go.ChangeShapes Go.WideShapes Go.ChangeAt Go.RowKit
set_option linter.unusedVariables false

/-- the slice at a of capacity c holds just the bytes zs, in a row made at base or behind it (or it is nil) -/
def Got (w : World) (base : Nat) (a : Option Addr) (c : Nat) (zs : List Int) : Prop := Own w base (.slice a zs.length c) zs

theorem own_got {w : World} {base : Nat} {v : Value} {zs : List Int} (h : Own w base v zs) : ∃ a c, v = .slice a zs.length c ∧ Got w base a c zs := by
  have h' := h
  rcases h.2 with ⟨rfl, hn⟩ | ⟨g, cap, cur, rfl, hb, hg, hr⟩
  · exact ⟨none, 0, by rw [hn], by unfold Got; rw [hn]; exact h'⟩
  · exact ⟨_, _, rfl, h'⟩

theorem Got.lies {w : World} {base : Nat} {a : Option Addr} {c : Nat} {zs : List Int} (h : Got w base a c zs) (hz : AreBytes zs) : Lies w a zs := by
  refine ⟨hz, ?_⟩
  rcases h.2 with ⟨h1, hn⟩ | ⟨g, cap, cur, h1, hb, hg, hr⟩
  · exact .inl (List.length_eq_zero_iff.1 hn)
  · simp only [Value.slice.injEq, true_and] at h1
    obtain ⟨rfl, rfl⟩ := h1
    refine .inr ⟨g, 0, rfl, fun i hi => ?_⟩
    rw [Nat.zero_add, World.ownsRow.cellAt h i (by omega)]
    exact cellsOf_get zs i hi
theorem Got.none {w : World} {base : Nat} {a : Option Addr} {c : Nat} {zs : List Int} (h : Got w base a c zs) : a = none → zs.length = 0 ∧ c = 0 := by
  intro ha
  rcases h.2 with ⟨h1, hn⟩ | ⟨g, cap, cur, h1, hb, hg, hr⟩
  · simp only [Value.slice.injEq] at h1
    exact ⟨hn, h1.2.2⟩
  · simp only [Value.slice.injEq] at h1
    rw [ha] at h1
    cases h1.1
theorem Got.cap {w : World} {base : Nat} {a : Option Addr} {c : Nat} {zs : List Int} (h : Got w base a c zs) : zs.length ≤ c := by
  rcases h.2 with ⟨h1, hn⟩ | ⟨g, cap, cur, h1, hb, hg, hr, _⟩
  · omega
  · simp only [Value.slice.injEq] at h1
    omega

theorem putL_bytes (zs : List Int) (n width : Int) (hz : AreBytes zs) : AreBytes (putL zs n width) := by
  unfold putL
  split
  · intro z hm
    rcases List.mem_append.1 hm with h | h
    · exact hz z h
    · exact leB_bytes _ _ z h
  · exact hz
theorem numsOf_bytes (s : ByteArray) : AreBytes (numsOf s) := by
  intro z hz
  simp [numsOf] at hz
  obtain ⟨b, _, rfl⟩ := hz
  have := b.toNat_lt
  omega
theorem putT_bytes (zs : List Int) (s : ByteArray) (hz : AreBytes zs) : AreBytes (putT zs s) := by
  intro z hm
  simp only [putT, List.mem_append] at hm
  rcases hm with (h | h) | h
  · exact hz z h
  · exact leB_bytes _ _ z h
  · exact numsOf_bytes _ z h
theorem putL_length (zs : List Int) (n width : Int) : (putL zs n width).length ≤ zs.length + 4 := by
  unfold putL
  split
  · rename_i h
    have := isW_cases h
    simp [leB_length]
    omega
  · omega
theorem putT_length (zs : List Int) (s : ByteArray) : (putT zs s).length = zs.length + 2 + s.size := by simp [putT, leB_length, numsOf_length]; omega

theorem put_got (a : Option Addr) (cap : Nat) (zs : List Int) (n width : Int) (w : World) (hl : Lies w a zs) (hna : a = none → zs.length = 0 ∧ cap = 0) (hcap : zs.length ≤ cap) (hm : zs.length + 4 ≤ 140737488355328) (hn : 0 ≤ n ∧ n ≤ 4294967295) :
    Calls Tryd.prog 33 #[.slice a zs.length cap, .int .u32 n, .int .i64 width] w fun e w' => ∃ a' c', e = .returned (.slice a' (putL zs n width).length c') ∧ Got w' w.heap.size a' c' (putL zs n width) ∧ Below w.heap.size w w' := by
  refine (put_any a cap zs n width w hl hna hcap hm hn).mono ?_
  rintro e w' ⟨v, rfl, hown, hb⟩
  obtain ⟨a', c', rfl, hg⟩ := own_got hown
  exact ⟨a', c', rfl, hg, hb⟩
theorem same_bel (a1 a2 : Option Addr) (c1 c2 : Nat) (xs : List Int) (w : World) (h1 : Lies w a1 xs) (h2 : Lies w a2 xs) (hm : xs.length ≤ maxLen) :
    Calls Tryd.prog 30 #[.slice a1 xs.length c1, .slice a2 xs.length c2] w fun e w' => e = .returned (.bool true) ∧ Below w.heap.size w w' := by
  refine (same_eq a1 a2 c1 c2 xs w h1 h2 hm).mono ?_
  rintro e w' ⟨rfl, n, rfl⟩
  exact ⟨rfl, below_drewN (Below.refl _ _) n⟩
theorem Below.go {w w1 w2 : World} (h : Below w.heap.size w w1) (h2 : Below w1.heap.size w1 w2) : Below w.heap.size w w2 := h.trans (h2.mono h.size)

end Go.Proofs.YthboapfbgdcdoaaDoor
