/- The walk of the statement OctetGets. -/
import Derived.Test.YtplbejicjinhaaaBook
import Derived.Test.YtplbejicjinhaaaText
namespace Go.Proofs.Ytplbejicjinhaaa
open Go.ChangeShapes Go.WideShapes Go.ChangeAt Go.RowKit
set_option linter.unusedVariables false

theorem gets_walk (a : Option Addr) (cap : Nat) (zs : List Int) (at' width most : Int) (w : World) (hl : Lies w a zs) (hcap : zs.length ≤ cap) (hm : zs.length ≤ 140737488351232)
    (ha : -9223372036854775808 ≤ at' ∧ at' ≤ 9223372036854775807) :
    Calls Try.prog 5 #[.slice a zs.length cap, .int .i64 at', .int .i64 width, .int .i64 most] w fun e w' => e = .returned (.bool true) ∧ Below w.heap.size w w' := by
  have e1 : (getN zs at' width == getN zs at' width) = true := by simp
  have e2 : (getE zs at' width == getE zs at' width) = true := by simp
  have e3 : (getTo zs at' most == getTo zs at' most) = true := by simp
  have e4 : (getTE zs at' most == getTE zs at' most) = true := by simp
  have hmm : zs.length ≤ maxLen := by unfold maxLen; omega
  have hm2 : zs.length ≤ 140737488355328 := by omega
  go_enter Try.func5, Try.ntmps5
  go_wp2_with (first
    | (go_at_call 15; refine (roomy_any _ _ _ _ _ hl hm2).mono ?_; rintro e w1 ⟨rfl, hr1, hb1⟩; have hL1 := hr1.lies hl.1; have hL2 := hl.below hb1)
    | (go_at_call 9; refine (get_any _ _ _ _ _ _ hL1 hmm ha).mono ?_; rintro e w' ⟨rfl, rfl⟩)
    | (go_at_call 21; refine (refGet_any _ _ _ _ _ _ hL2 hmm ha).mono ?_; rintro e w' ⟨rfl, rfl⟩)
    | (go_at_call 10; refine (getText_any _ _ _ _ _ _ hL1 hmm (by omega) ha).mono ?_; rintro e w' ⟨rfl, rfl⟩)
    | (go_at_call 22; refine (refGetText_any _ _ _ _ _ _ hL2 hmm hcap ha).mono ?_; rintro e w' ⟨rfl, rfl⟩)
    | (go_at_call 20; refine (intact_any _ _ _ _ _ _ hL2 hr1 hm2).mono ?_; rintro e w' ⟨rfl, n1, rfl⟩)
    | (go_at_call 14; refine (known_any _).mono ?_; rintro e w' ⟨rfl, rfl⟩))
  go_ret
  exact ⟨rfl, (below_drewN hb1 _).alloc (by have := hb1.size; simpa using this) _⟩
end Go.Proofs.Ytplbejicjinhaaa
