/- The walk of the statement OctetNumbers: chapter 1's runs. -/
import Derived.Test.YtplbejicjinhaaaPutsW
import Derived.Test.YtplbejicjinhaaaText
import Derived.Test.YtplbejicjinhaaaFrame
namespace Go.Proofs.Ytplbejicjinhaaa
open Go.ChangeShapes Go.WideShapes Go.ChangeAt Go.RowKit
set_option linter.unusedVariables false

theorem lies_two (w : World) (x y : Int) (hx : 0 ≤ x ∧ x ≤ 255) (hy : 0 ≤ y ∧ y ≤ 255) : Lies (w.alloc (.cells #[.int .u8 x, .int .u8 y] 5)) (some ⟨w.heap.size, 0, none⟩) [x, y] := by
  refine ⟨?_, .inr ⟨_, _, rfl, fun i hi => ?_⟩⟩
  · intro z hz
    simp at hz
    omega
  · simp at hi
    have : i = 0 ∨ i = 1 := by omega
    rcases this with rfl | rfl <;> simp

theorem get_two (w : World) (x y at' width : Int) (hx : 0 ≤ x ∧ x ≤ 255) (hy : 0 ≤ y ∧ y ≤ 255) (ha : -9223372036854775808 ≤ at' ∧ at' ≤ 9223372036854775807) :
    Calls Try.prog 9 #[.slice (some ⟨w.heap.size, 0, none⟩) 2 2, .int .i64 at', .int .i64 width] (w.alloc (.cells #[.int .u8 x, .int .u8 y] 5)) fun e w' => e = .returned (.tuple #[.int .u32 (getN [x, y] at' width), .int .i64 (getE [x, y] at' width)]) ∧ Below w.heap.size w w' := by
  refine (get_any (some ⟨w.heap.size, 0, none⟩) 2 [x, y] at' width _ (lies_two w x y hx hy) (by simp [maxLen]) ha).mono ?_
  rintro e w' ⟨rfl, rfl⟩
  exact ⟨rfl, (Below.refl _ _).alloc (Nat.le_refl _) _⟩
theorem getText_two (w : World) (x y at' most : Int) (hx : 0 ≤ x ∧ x ≤ 255) (hy : 0 ≤ y ∧ y ≤ 255) (ha : -9223372036854775808 ≤ at' ∧ at' ≤ 9223372036854775807) :
    Calls Try.prog 10 #[.slice (some ⟨w.heap.size, 0, none⟩) 2 2, .int .i64 at', .int .i64 most] (w.alloc (.cells #[.int .u8 x, .int .u8 y] 5)) fun e w' => e = .returned (.tuple #[.string (getTS [x, y] at' most), .int .i64 (getTo [x, y] at' most), .int .i64 (getTE [x, y] at' most)]) ∧ Below w.heap.size w w' := by
  refine (getText_any (some ⟨w.heap.size, 0, none⟩) 2 [x, y] at' most _ (lies_two w x y hx hy) (by simp [maxLen]) (by simp) ha).mono ?_
  rintro e w' ⟨rfl, rfl⟩
  exact ⟨rfl, (Below.refl _ _).alloc (Nat.le_refl _) _⟩
/-- octet.Put of nothing -/
theorem put_nil (w : World) (n width : Int) (hn : 0 ≤ n ∧ n ≤ 4294967295) :
    Calls Try.prog 11 #[.slice none 0 0, .int .u32 n, .int .i64 width] w fun e w' => ∃ a' c', e = .returned (.slice a' (putL [] n width).length c') ∧ Lies w' a' (putL [] n width) ∧ Below w.heap.size w w' := by
  refine (put_got none 0 [] n width w (lies_nil _ _) (fun _ => ⟨rfl, rfl⟩) (Nat.le_refl _) (by simp) hn).mono ?_
  rintro e w' ⟨a', c', rfl, hg, hb⟩
  exact ⟨a', c', rfl, hg.lies (putL_bytes _ _ _ (by intro z hz; cases hz)), hb⟩
theorem convert_two (w : World) (a : Option Addr) (c : Nat) (h : Lies w a [2, 1]) : (convert 26 9 (.slice a 2 c)).run Try.prog w = .ok (.string ⟨#[2, 1]⟩) w := by
  rcases h.2 with h | ⟨b, off, rfl, hc⟩
  · cases h
  · have := run_convert_bytes_arg (P := Try.prog) w 26 5 Try.underlying26 Try.underlying5 b off 2 c [2, 1] rfl hc 9 Try.underlying9
    rw [this]
    rfl

theorem numbers_walk (w : World) :
    Calls Try.prog 3 #[] w fun e w' => e = .returned (.bool true) ∧ Below w.heap.size w w' := by
  have x1 : getE [2, 1] 1 2 = 10 := by decide
  have x2 : getE [2, 1] 3 2 = 1 := by decide
  have x3 : getE [2, 1] 0 3 = 1 := by decide
  have x4 : getTE [0, 0] 0 5 = 0 := by decide
  have x6 : getTo [0, 0] 0 5 = 2 := by decide
  have x5 : getTS [0, 0] 0 5 = ByteArray.empty := by
    simp only [getTS, x4, if_true]
    rfl
  have y1 : putL [] 258 2 = [2, 1] := by decide
  have y2 : putL [] 258 3 = [] := by decide
  have s1 : sgn 128 2 = 128 := by simp [sgn, i16wrap, wrap32]
  have f1 : fitsB 2147483647 4 = true := by decide
  have f2 : fitsB 0 3 = false := by decide
  have hb : Below w.heap.size w w := Below.refl _ _
  go_enter Try.func3, Try.ntmps3
  go_wp2_with (first
    | (go_at_call 9; refine (get_two _ _ _ _ _ (by omega) (by omega) (by omega)).mono ?_; rintro e w1 ⟨rfl, hb1⟩; have hb := Below.go hb hb1; clear hb1)
    | (go_at_call 10; refine (getText_two _ _ _ _ _ (by omega) (by omega) (by omega)).mono ?_; rintro e w4 ⟨rfl, hb4⟩; have hb := Below.go hb hb4; clear hb4)
    | (go_at_call 11; refine (put_nil _ _ _ (by omega)).mono ?_; rintro e w5 ⟨xa, xc, rfl, hX, hb5⟩; have hb := Below.go hb hb5; clear hb5; first | (rw [y1] at hX ⊢; have kc := convert_two _ _ xc hX) | rw [y2] at hX ⊢)
    | (go_at_call 12; refine (signed_any _ _ _).mono ?_; rintro e w6 ⟨rfl, rfl⟩)
    | (go_at_call 13; refine (fits_any _ _ _ (by omega)).mono ?_; rintro e w7 ⟨rfl, rfl⟩)
    | (go_at_call 14; refine (known_bel _).mono ?_; rintro e w8 ⟨rfl, hb8⟩; have hb := Below.go hb hb8; clear hb8))
  go_ret
  exact ⟨rfl, hb⟩
end Go.Proofs.Ytplbejicjinhaaa
