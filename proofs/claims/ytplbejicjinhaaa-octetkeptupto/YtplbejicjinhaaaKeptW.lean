/- The walk of the statement OctetKept, where what comes in is of at most some million values and letters. -/
import Derived.Test.YtplbejicjinhaaaApartW
namespace Go.Proofs.Ytplbejicjinhaaa
open Go.ChangeShapes Go.WideShapes Go.ChangeAt Go.RowKit
set_option linter.unusedVariables false

/-- what Put and PutText hand out: a row of its own -/
theorem got_row {w : World} {base : Nat} {a : Option Addr} {c : Nat} {zs : List Int} (h : Got w base a c zs) (hz : 0 < zs.length) : ∃ g, a = some ⟨g, 0, none⟩ ∧ base ≤ g ∧ g < w.heap.size ∧ RowOf w g c zs := by
  rcases h.2 with ⟨h1, hn⟩ | ⟨g, cap, cur, h1, hb, hh, hnc, hcm, hcs, ht⟩
  · omega
  · simp only [Value.slice.injEq, true_and] at h1
    obtain ⟨rfl, rfl⟩ := h1
    exact ⟨g, rfl, hb, (Array.getElem?_eq_some_iff.1 hh).1, hcm, hnc, cur, hh, by omega, by simpa using ht⟩

/-- the book at B holds at most m lists, in rows of their own, all of them ahead of block F -/
def Books (w0 w : World) (B m F : Nat) : Prop :=
  B = w0.heap.size ∧ Below B w0 w ∧ F ≤ w.heap.size ∧ B < F ∧ ∃ es a1 a2 c1 c2 held, es.length ≤ m ∧ (0 < m → es ≠ []) ∧ BS w B es a1 a2 c1 c2 held ∧ (es.map Ent.g).Nodup ∧ ∀ e ∈ es, e.g < F

theorem Books.start (w : World) : Books w (w.alloc (.cells #[.slice none 0 0, .slice none 0 0, .int .i64 0, .bool false] 49)) w.heap.size 0 (w.heap.size + 1) := by
  refine ⟨rfl, (Below.refl _ _).alloc (Nat.le_refl _) _, by simp, by omega, [], none, none, 0, 0, 0, Nat.le_refl _, fun h => by omega, ⟨⟨?_, rfl, rfl, ⟨Nat.zero_le _, .inl ⟨rfl, rfl, rfl⟩⟩, ⟨Nat.zero_le _, .inl ⟨rfl, rfl, rfl⟩⟩, fun g hg => by cases hg⟩, fun e he => by cases he⟩, by simp, fun e he => by cases he⟩
  exact heap_alloc_new w _

theorem Books.more {w0 w w1 : World} {B m : Nat} (h : Books w0 w B m w.heap.size) (hb : Below w.heap.size w w1) : Books w0 w1 B m w.heap.size := by
  obtain ⟨h1, h2, h3, h4, es, a1, a2, c1, c2, held, e1, e2, ⟨e3, e4⟩, e5, e6⟩ := h
  have hk : K5 w w1 := fun k cur hk => hb.block k (Array.getElem?_eq_some_iff.1 hk).1
  exact ⟨h1, h2.trans (hb.mono (by omega)), hb.size, h4, es, a1, a2, c1, c2, held, e1, e2, ⟨e3.kept fun k hk => hb.block k hk, fun e he => (e4 e he).kept hk⟩, e5, e6⟩

theorem Books.grow {w0 w : World} {B m F : Nat} (h : Books w0 w B m F) : Books w0 w B m w.heap.size := by
  obtain ⟨h1, h2, h3, h4, es, a1, a2, c1, c2, held, e1, e2, e3, e5, e6⟩ := h
  exact ⟨h1, h2, Nat.le_refl _, by omega, es, a1, a2, c1, c2, held, e1, e2, e3, e5, fun e he => by have := e6 e he; omega⟩

theorem keep_books {w0 w : World} {B m F g cap : Nat} {L : List Int} (h : Books w0 w B m F) (hm : m ≤ 99) (hF : F ≤ g) (hg : g < w.heap.size) (hr : RowOf w g cap L) (hz : AreBytes L) (h0 : 0 < L.length) (hL : L.length ≤ 140737488355328) :
    Calls Try.prog 25 #[.pointer (some ⟨B, 0, none⟩), .slice (some ⟨g, 0, none⟩) L.length cap] w fun e w' => e = .returned (.tuple #[]) ∧ Books w0 w' B (m + 1) w'.heap.size := by
  obtain ⟨h1, h2, h3, h4, es, a1, a2, c1, c2, held, e1, e2, e3, e5, e6⟩ := h
  refine (keep_any B g cap L es a1 a2 c1 c2 held w e3 (by omega) hr hz h0 hL (by omega)).mono ?_
  rintro e w' ⟨rfl, wa, wc, j, b1, b2, d1, d2, hd, hj, hS, hk, hb⟩
  refine ⟨rfl, h1, h2.trans hb, Nat.le_refl _, by have := hb.size; omega, _, b1, b2, d1, d2, hd, ?_, fun _ => ?_, hS, ?_, fun e he => ?_⟩
  · simp
    omega
  · intro hnil
    have := congrArg List.length hnil
    simp at this
    omega
  · rw [List.map_drop]
    refine List.Nodup.sublist (List.drop_sublist _ _) ?_
    rw [List.map_append, List.nodup_append]
    refine ⟨e5, by simp, ?_⟩
    intro x hx y hy
    simp at hy
    obtain ⟨e, he, rfl⟩ := List.mem_map.1 hx
    have := e6 e he
    omega
  · have hs := hb.size
    rcases List.mem_append.1 (List.mem_of_mem_drop he) with h | h
    · have := e6 e h
      omega
    · simp at h
      subst h
      show g < _
      omega

theorem apart_books {w0 w : World} {B m F : Nat} (h : Books w0 w B m F) (hm : m ≤ 99) (h0 : 0 < m) :
    Calls Try.prog 26 #[.pointer (some ⟨B, 0, none⟩), .func (.func 27) #[] #[]] w fun e w' => e = .returned (.bool true) ∧ Below B w0 w' := by
  obtain ⟨h1, h2, h3, h4, es, a1, a2, c1, c2, held, e1, e2, e3, e5, e6⟩ := h
  have hne := e2 h0
  obtain ⟨G1, o1, rfl⟩ := e3.1.o1.some_of (by simpa using hne)
  obtain ⟨G2, o2, rfl⟩ := e3.1.o2.some_of (by simpa using hne)
  refine (apart_any B es G1 o1 G2 o2 c1 c2 held w e3 (by omega) e5).mono ?_
  rintro e w' ⟨rfl, hb⟩
  exact ⟨rfl, h2.trans hb⟩

theorem put_row (a : Option Addr) (cap : Nat) (zs : List Int) (n : Int) (w : World) (hl : Lies w a zs) (hna : a = none → zs.length = 0 ∧ cap = 0) (hcap : zs.length ≤ cap) (hm : zs.length + 4 ≤ 140737488355328) (hn : 0 ≤ n ∧ n ≤ 4294967295) :
    Calls Try.prog 11 #[.slice a zs.length cap, .int .u32 n, .int .i64 4] w fun e w' => ∃ g c', e = .returned (.slice (some ⟨g, 0, none⟩) (putL zs n 4).length c') ∧ w.heap.size ≤ g ∧ g < w'.heap.size ∧ RowOf w' g c' (putL zs n 4) ∧ Below w.heap.size w w' := by
  refine (put_got a cap zs n 4 w hl hna hcap hm hn).mono ?_
  rintro e w' ⟨a', c', rfl, hg, hb⟩
  obtain ⟨g, rfl, h1, h2, h3⟩ := got_row hg (by simp [putL, isW, leB_length])
  exact ⟨g, c', rfl, h1, h2, h3, hb⟩
theorem putText_row (a : Option Addr) (cap : Nat) (zs : List Int) (s : ByteArray) (w : World) (hl : Lies w a zs) (hna : a = none → zs.length = 0 ∧ cap = 0) (hcap : zs.length ≤ cap) (hm : zs.length + 4 + s.size ≤ 140737488355328) :
    Calls Try.prog 16 #[.slice a zs.length cap, .string s] w fun e w' => ∃ g c', e = .returned (.slice (some ⟨g, 0, none⟩) (putT zs s).length c') ∧ w.heap.size ≤ g ∧ g < w'.heap.size ∧ RowOf w' g c' (putT zs s) ∧ Below w.heap.size w w' := by
  refine (putText_got a cap zs s w hl hna hcap hm).mono ?_
  rintro e w' ⟨a', c', rfl, hg, hb⟩
  obtain ⟨g, rfl, h1, h2, h3⟩ := got_row hg (by rw [putT_length]; omega)
  exact ⟨g, c', rfl, h1, h2, h3, hb⟩

theorem Books.bel {w0 w : World} {B m F : Nat} (h : Books w0 w B m F) : Below w0.heap.size w0 w := by
  have := h.2.1
  rwa [h.1] at this

theorem kept_walk (a : Option Addr) (cap : Nat) (zs : List Int) (n : Int) (s : ByteArray) (w : World) (hl : Lies w a zs) (hna : a = none → zs.length = 0 ∧ cap = 0) (hcap : zs.length ≤ cap) (hm : zs.length + s.size ≤ 1048576) (hn : 0 ≤ n ∧ n ≤ 4294967295) :
    Calls Try.prog 8 #[.slice a zs.length cap, .int .u32 n, .string s] w fun e w' => e = .returned (.bool true) ∧ Below w.heap.size w w' := by
  have hz := hl.1
  have m2 : zs.length + 4 ≤ 140737488355328 := by omega
  have m3 : zs.length + 4 + s.size ≤ 140737488355328 := by omega
  have m4 : 0 < (putL zs n 4).length := by simp [putL, isW, leB_length]
  have m5 : (putL zs n 4).length ≤ 140737488355328 := by have := putL_length zs n 4; omega
  have m6 : 0 < (putT zs s).length := by rw [putT_length]; omega
  have m7 : (putT zs s).length ≤ 140737488355328 := by rw [putT_length]; omega
  have b1 := putL_bytes zs n 4 hz
  have b2 := putT_bytes zs s hz
  have hB0 := Books.start w
  go_enter Try.func8, Try.ntmps8
  go_wp2
  go_loopw [8] (fun i wr => ∃ k : Nat, k ≤ 2 ∧ i = .int .i64 k ∧ Books w wr w.heap.size (2 * k) wr.heap.size) (fun i _ => 2 - (intOf i).toNat)
  case atStart => exact ⟨0, by omega, rfl, hB0.grow⟩
  case round =>
    obtain ⟨k, hk, rfl, hB⟩ := hrel
    clear hB0
    by_cases hlt : k < 2
    · have hL := hl.below hB.bel
      go_wp2_with (first
        | (go_at_call 11; refine (put_row _ _ _ _ _ hL hna hcap m2 hn).mono ?_; rintro e w1 ⟨g1, c1, rfl, hg1, hg1', hr1, hb1⟩; have hB1 := hB.more hb1)
        | (go_at_call 16; refine (putText_row _ _ _ _ _ (hl.below hB2.bel) hna hcap m3).mono ?_; rintro e w3 ⟨g3, c3, rfl, hg3, hg3', hr3, hb3⟩; have hB3 := hB2.more hb3)
        | (go_at_call 25; refine (keep_books hB1 (by omega) hg1 hg1' hr1 b1 m4 m5).mono ?_; rintro e w2 ⟨rfl, hB2⟩; clear hB1 hr1 hg1 hg1')
        | (go_at_call 25; refine (keep_books hB3 (by omega) hg3 hg3' hr3 b2 m6 m7).mono ?_; rintro e w4 ⟨rfl, hB4⟩))
      go_roundw
      case rel => exact ⟨k + 1, by omega, by go_num, hB4⟩
      case measure => simp [intOf]; omega
    · have e : k = 2 := by omega
      subst e
      go_wp2_with (first
        | (go_at_call 26; refine (apart_books hB (by omega) (by omega)).mono ?_; rintro e w5 ⟨rfl, hb5⟩)
        | (go_at_call 14; refine (known_bel _).mono ?_; rintro e w6 ⟨rfl, hb6⟩))
      go_ret
      exact ⟨rfl, Below.go hb5 hb6⟩
end Go.Proofs.Ytplbejicjinhaaa
