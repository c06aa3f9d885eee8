/- The walk of LexNumbers: chapter 2's runs. -/
import Derived.Test.YtaanfphknnijeaaNames2
import Derived.LoopTactic
import Derived.Deep.LoopGhost
namespace Go.Proofs.Ytaanfphknnijeaa
open Go.ChangeShapes Go.WideShapes Go.ChangeAt Go.RowKit
set_option linter.unusedVariables false
set_option maxRecDepth 100000

def badL : List ByteArray := [⟨#[39, 39, 39]⟩, ⟨#[48, 48, 55]⟩, ⟨#[48, 120]⟩, ⟨#[52, 50, 57, 52, 57, 54, 55, 50, 57, 54]⟩, ⟨#[49, 97]⟩, ⟨#[10]⟩, ⟨#[97, 98, 99, 100, 101, 102, 103, 104, 105, 106, 107, 108, 109, 110, 111, 112, 113, 114, 115, 116, 117, 118, 119, 120, 121, 122, 97, 98, 99, 100, 101, 102, 103]⟩]
def badAt (k : Nat) : ByteArray := badL.getD k ⟨#[]⟩

theorem bad_scan (k : Nat) (h : k < 7) : scan (bs (badAt k)) 0 = .error 0 ∧ (badAt k).size ≤ 1100000 := by
  have : k = 0 ∨ k = 1 ∨ k = 2 ∨ k = 3 ∨ k = 4 ∨ k = 5 ∨ k = 6 := by omega
  rcases this with rfl | rfl | rfl | rfl | rfl | rfl | rfl
  all_goals
    refine ⟨?_, by decide⟩
    rw [scan_eq 40 _ _ (by decide)]
    kernel_rfl

theorem bad_cell (k : Nat) (h : k < 7) : (badL.map Value.string)[k]? = some (.string (badAt k)) := by
  have : k = 0 ∨ k = 1 ∨ k = 2 ∨ k = 3 ∨ k = 4 ∨ k = 5 ∨ k = 6 := by omega
  rcases this with rfl | rfl | rfl | rfl | rfl | rfl | rfl <;> rfl

theorem good_scan : scan (bs ⟨#[39, 32, 39, 32, 39, 59, 39, 52, 50, 57, 52, 57, 54, 55, 50, 57, 53]⟩) 0 = .ok [⟨2, [39, 32, 39], 32, 0⟩, ⟨2, [39, 59, 39], 59, 4⟩, ⟨2, [52, 50, 57, 52, 57, 54, 55, 50, 57, 53], 4294967295, 7⟩] := by
  rw [scan_eq 17 _ _ (by decide)]
  kernel_rfl

theorem good_any (w : World) : Calls Try.prog 9 #[.string ⟨#[39, 32, 39, 32, 39, 59, 39, 52, 50, 57, 52, 57, 54, 55, 50, 57, 53]⟩] w fun e w' => Below w.heap.size w w' ∧
    ∃ g cap, e = .returned (.tuple #[.slice (some ⟨g, 0, none⟩) 3 cap, .int .i64 0, .int .i64 0]) ∧ g < w'.heap.size ∧ TokAt w' g 0 ⟨2, [39, 32, 39], 32, 0⟩ ∧ TokAt w' g 1 ⟨2, [39, 59, 39], 59, 4⟩ ∧ TokAt w' g 2 ⟨2, [52, 50, 57, 52, 57, 54, 55, 50, 57, 53], 4294967295, 7⟩ := by
  refine (tokens_ok _ (by decide) _ good_scan w).mono ?_
  rintro e w' ⟨hb, v, rfl, hown⟩
  obtain ⟨g, cap, rfl, _, hg⟩ := own_form (n := 2) hown
  exact ⟨hb, g, cap, rfl, hg, tok_at hown 0 _ rfl, tok_at hown 1 _ rfl, tok_at hown 2 _ rfl⟩

theorem bad_any (k : Nat) (h : k < 7) (w : World) : Calls Try.prog 9 #[.string (badAt k)] w fun e w' => Below w.heap.size w w' ∧ e = .returned (.tuple #[.slice none 0 0, .int .i64 0, .int .i64 20]) := by
  have := tokens_bad _ (bad_scan k h).2 _ (bad_scan k h).1 w
  exact this

theorem reg_z3 (w : World) : Calls Try.prog 10 #[.string ⟨#[122, 51]⟩] w fun e w' => e = .returned (.tuple #[.int .i64 3, .bool true, .bool true]) ∧ w' = w := by
  have := register_any ⟨#[122, 51]⟩ (by decide) w
  rw [show regN ⟨#[122, 51]⟩ = 3 by kernel_rfl, show isR ⟨#[122, 51]⟩ = false by kernel_rfl, show isZ ⟨#[122, 51]⟩ = true by kernel_rfl] at this
  exact this
theorem reg_r8 (w : World) : Calls Try.prog 10 #[.string ⟨#[114, 56]⟩] w fun e w' => e = .returned (.tuple #[.int .i64 0, .bool false, .bool false]) ∧ w' = w := by
  have := register_any ⟨#[114, 56]⟩ (by decide) w
  rw [show regN ⟨#[114, 56]⟩ = 0 by kernel_rfl, show isR ⟨#[114, 56]⟩ = false by kernel_rfl, show isZ ⟨#[114, 56]⟩ = false by kernel_rfl] at this
  exact this
theorem leg_r7 : legB ⟨#[114, 55]⟩ = false := by kernel_rfl
theorem leg_r8 : legB ⟨#[114, 56]⟩ = true := by kernel_rfl
theorem leg_u : legB ⟨#[95]⟩ = true := by kernel_rfl
theorem leg_e : legB ⟨#[]⟩ = false := by kernel_rfl

theorem bel_next {B : Nat} {w a b : World} (h : Below B w a ∧ B ≤ a.heap.size) (k : Below a.heap.size a b) : Below B w b ∧ B ≤ b.heap.size :=
  ⟨h.1.trans (k.mono h.2), Nat.le_trans h.2 k.size⟩

set_option maxHeartbeats 2000000 in
theorem lexNumbers_walk (w : World) : Calls Try.prog 3 #[] w fun e w' => e = .returned (.bool true) ∧ Below w.heap.size w w' := by
  have hH1 := Hid.intro good_any
  have hH2 := Hid.intro reg_z3
  have hH3 := Hid.intro reg_r8
  have l1 := leg_r7
  have l2 := leg_r8
  have l3 := leg_u
  have l4 := leg_e
  go_enter Try.func3, Try.ntmps3
  go_wp2
  have hc0 : ∀ j, j < 7 → (w.alloc (.cells (badL.map Value.string).toArray 9)).cell? ⟨w.heap.size, j, none⟩ = some (.string (badAt j)) := by
    intro j hj
    have := cells_new w (badL.map Value.string).toArray 9 j _ (bad_cell j hj)
    rwa [Lib.addr_add, Nat.zero_add] at this
  go_loopw [2] (fun vi wr => ∃ k : Nat, k ≤ 7 ∧ vi = .int .i64 k ∧ Hid (∀ j, j < 7 → wr.cell? ⟨w.heap.size, j, none⟩ = some (.string (badAt j))) ∧ Below w.heap.size w wr ∧ w.heap.size < wr.heap.size) (fun vi _ => 7 - (intOf vi).toNat)
  case atStart => exact ⟨0, by omega, rfl, hc0, (Below.refl _ _).alloc (Nat.le_refl _) _, by simp⟩
  case round =>
    clear hc0
    obtain ⟨k, hk, rfl, hcH, hbw, hsz⟩ := hrel
    by_cases hlt : k < 7
    · have hck := hcH.out k hlt
      have hbH := Hid.intro (bad_any k hlt)
      go_wp2_with (go_at_call 9; refine (hbH.out _).mono ?_; rintro e w2 ⟨hb2, rfl⟩)
      all_goals first
        | omega
        | skip
      go_roundw
      case rel =>
        refine ⟨k + 1, by omega, by go_num, ?_, hbw.trans (hb2.mono (by omega)), by have := hb2.size; omega⟩
        intro j hj
        rw [hb2.cell (p := ⟨w.heap.size, j, none⟩) hsz]
        exact hcH.out j hj
      case measure => simp [intOf]; omega
    · have e : k = 7 := by omega
      subst e
      clear hcH
      go_wp2_with (first
        | (go_at_call 9; with_reducible refine (hH1.out _).mono ?_; rintro e w2 ⟨hb2, g, cap, rfl, hg, ht0, ht1, ht2⟩; obtain ⟨_, _, k2, _⟩ := ht0; obtain ⟨_, _, k6, _⟩ := ht1; obtain ⟨_, _, k10, _⟩ := ht2; simp only [Nat.zero_mul, Nat.zero_add, Nat.reduceMul, Nat.reduceAdd] at k2 k6 k10)
        | (go_at_call 10; first
          | (with_reducible refine (hH2.out _).mono ?_; rintro e w' ⟨rfl, rfl⟩)
          | (with_reducible refine (hH3.out _).mono ?_; rintro e w' ⟨rfl, rfl⟩))
        | (go_at_call 11; refine (legal_any _ (by decide) _).mono ?_; rintro e w3 ⟨rfl, hb3⟩)
        | (go_at_call 12; refine (known_any _).mono ?_; rintro e w4 ⟨rfl, hb4⟩))
      go_ret
      rename_i w31 q1 w32 q2 w33 q3
      exact ⟨rfl, (bel_next (bel_next (bel_next (bel_next (bel_next (bel_next ⟨hbw, by omega⟩ hb2) q1) q2) q3) hb3) hb4).1⟩
end Go.Proofs.Ytaanfphknnijeaa
