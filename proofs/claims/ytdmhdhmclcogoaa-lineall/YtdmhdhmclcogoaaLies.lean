/- Tokens as they lie; small steps. -/
import Derived.Test.YtdmhdhmclcogoaaSame
import Derived.Test.YtdmhdhmclcogoaaCutM
namespace Go.Proofs.Ytdmhdhmclcogoaa
open Go.ChangeShapes Go.WideShapes Go.ChangeAt Go.RowKit
set_option linter.unusedVariables false
set_option maxRecDepth 100000

theorem few_big (s : ByteArray) (n : Nat) (hs : s.size ≤ 9223372036854775807) (hn : n ≤ 1000000) (w : World) :
    Calls Try.prog 12 #[.string s, .int .i64 (n : Int)] w fun e w' => e = .returned (.string (fewS s n)) ∧ w' = w := by
  unfold fewS
  by_cases h : n < s.size
  · rw [if_pos h]
    go_enter Try.func12, Try.ntmps12
    go_wp2
    all_goals first
      | omega
      | (go_ret; exact ⟨rfl, rfl⟩)
  · rw [if_neg h]
    go_enter Try.func12, Try.ntmps12
    go_wp2
    all_goals first
      | omega
      | (go_ret; exact ⟨rfl, rfl⟩)

theorem tokens_lies (s : ByteArray) (hs : s.size ≤ 1100000) (ts : List Tok) (h : scan (bs s) 0 = .ok ts) (w : World) :
    Calls Try.prog 19 #[.string s] w fun e w' => Below w.heap.size w w' ∧ ∃ a cap, e = .returned (.tuple #[.slice a ts.length cap, .int .i64 0, .int .i64 0]) ∧ TokLies w' a ts := by
  refine (tokens_ok s hs ts h w).mono ?_
  rintro e w' ⟨hb, v, rfl, hown⟩
  obtain ⟨a, cap, rfl, hl⟩ := own_lies hown
  exact ⟨hb, a, cap, rfl, hl⟩

theorem bel_step {B : Nat} {w a b : World} (h : Below B w a ∧ B ≤ a.heap.size) (k : Below a.heap.size a b) : Below B w b ∧ B ≤ b.heap.size :=
  ⟨h.1.trans (k.mono h.2), Nat.le_trans h.2 k.size⟩

end Go.Proofs.Ytdmhdhmclcogoaa
