/- book.Same over instructions. -/
import Derived.Test.YtmpckkogllnkkaaDoorAll1
import Derived.Deep.QuietTactic
import Derived.BigQuiet
import Derived.WalkSmall
import Derived.WalkSpells
namespace Go.Proofs.YtmpckkogllnkkaaDoor
open Go.ChangeShapes Go.WideShapes Go.ChangeAt Go.RowKit
set_option linter.unusedVariables false
set_option maxRecDepth 100000

theorem sameI (a1 a2 : Option Addr) (c1 c2 : Nat) (xs : List Ins) (n0 : Nat) (hn0 : n0 = xs.length) (w : World) (h1 : ILies w a1 xs) (h2 : ILies w a2 xs) (hm : n0 ≤ 1000) :
    Calls Tryd.prog 28 #[.slice a1 n0 c1, .slice a2 n0 c2] w fun e w' => e = .returned (.bool true) ∧ ∃ n, w' = w.drewN n := by
  by_cases h0 : n0 = 0
  · subst h0
    go_enter Tryd.func28, Tryd.ntmps28
    go_wp2
    go_loop [5] (fun i => i = .int .i64 0) (fun _ => 0)
    case atStart => rfl
    case round =>
      subst hrel
      go_wp2
      go_ret
      exact ⟨rfl, 0, rfl⟩
  · rcases h1.2 with rfl | ⟨g1, o1, rfl, hc1⟩
    · simp at hn0; omega
    · rcases h2.2 with rfl | ⟨g2, o2, rfl, hc2⟩
      · simp at hn0; omega
      · have hH1 := Hid.intro hc1
        have hH2 := Hid.intro hc2
        have hnH := Hid.intro hn0
        clear hc1 hc2 hn0 h1 h2
        go_enter Tryd.func28, Tryd.ntmps28
        go_wp2
        go_loopw [5] (fun i wr => ∃ k n : Nat, k ≤ n0 ∧ i = .int .i64 k ∧ wr = w.drewN n) (fun i _ => n0 - (intOf i).toNat)
        case atStart => exact ⟨0, 0, Nat.zero_le _, rfl, rfl⟩
        case round =>
          obtain ⟨k, n, hk, rfl, rfl⟩ := hrel
          by_cases hlt : k < n0
          · obtain ⟨t, ht⟩ : ∃ t, xs[k]? = some t := ⟨xs[k]'(by rw [← hnH.out]; exact hlt), List.getElem?_eq_getElem _⟩
            obtain ⟨q0, q1, q2, q3, q4⟩ := hH1.out k t ht
            obtain ⟨p0, p1, p2, p3, p4⟩ := hH2.out k t ht
            clear ht
            go_wp2
            go_quiet (fail)
            go_wp2
            all_goals first
              | omega
              | skip
            go_roundw
            case rel => exact ⟨k + 1, n + nq, by omega, by go_num, by simp⟩
            case measure => simp [intOf]; omega
          · go_wp2
            all_goals first
              | omega
              | (go_ret; exact ⟨rfl, n, rfl⟩)
end Go.Proofs.YtmpckkogllnkkaaDoor
