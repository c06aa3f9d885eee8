/- The law's sameArg: tokens of the program held against the document's. -/
import Derived.Test.YtdmhdhmclcogoaaSame
namespace Go.Proofs.Ytdmhdhmclcogoaa
open Go.ChangeShapes Go.WideShapes Go.ChangeAt Go.RowKit
set_option linter.unusedVariables false
set_option maxRecDepth 100000

set_option maxHeartbeats 2000000 in
theorem sameArg_eq (a1 a2 : Option Addr) (c1 c2 : Nat) (xs : List Tok) (w : World) (h1 : TokLies w a1 xs) (h2 : TokLies w a2 xs) (hm : xs.length ≤ 4611686018427387904) :
    Calls Try.prog 22 #[.slice a1 xs.length c1, .slice a2 xs.length c2] w fun e w' => e = .returned (.bool true) ∧ ∃ n, w' = w.drewN n := by
  obtain ⟨n0, hn0⟩ : ∃ n0, n0 = xs.length := ⟨_, rfl⟩
  rw [← hn0] at hm ⊢
  by_cases h0 : n0 = 0
  · subst h0
    go_enter Try.func22, Try.ntmps22
    go_wp2
    go_loop [5] (fun i => i = .int .i64 0) (fun _ => 0)
    case atStart => rfl
    case round =>
      subst hrel
      go_wp2
      go_ret
      exact ⟨rfl, 0, rfl⟩
  · rcases h1 with rfl | ⟨g1, rfl, _, hc1⟩
    · simp at hn0; omega
    · rcases h2 with rfl | ⟨g2, rfl, _, hc2⟩
      · simp at hn0; omega
      · have hH1 := Hid.intro hc1
        have hH2 := Hid.intro hc2
        have hnH := Hid.intro hn0
        clear hc1 hc2 hn0
        go_enter Try.func22, Try.ntmps22
        go_wp2
        go_loopw [5] (fun i wr => ∃ k n : Nat, k ≤ n0 ∧ i = .int .i64 k ∧ wr = w.drewN n) (fun i _ => n0 - (intOf i).toNat)
        case atStart => exact ⟨0, 0, Nat.zero_le _, rfl, rfl⟩
        case round =>
          obtain ⟨k, n, hk, rfl, rfl⟩ := hrel
          by_cases hlt : k < n0
          · obtain ⟨t, ht⟩ : ∃ t, xs[k]? = some t := ⟨xs[k]'(by rw [← hnH.out]; exact hlt), List.getElem?_eq_getElem _⟩
            obtain ⟨q0, q1, q2, q3⟩ := hH1.out k t ht
            obtain ⟨p0, p1, p2, p3⟩ := hH2.out k t ht
            clear ht
            go_wp2
            go_quiet (fail)
            go_wp2
            all_goals first
              | omega
              | skip
            go_roundw
            case rel => exact ⟨k + 1, n + nq, by omega, by go_num, by simp⟩
            case measure => simp [intOf]; omega
          · go_wp2
            all_goals first
              | omega
              | (go_ret; exact ⟨rfl, n, rfl⟩)
end Go.Proofs.Ytdmhdhmclcogoaa
