/- The document's is, where something was refused. -/
import Derived.Test.YtlkmegchaeokgaaGreatDoorRefRd
namespace Go.Proofs.YtlkmegchaeokgaaGreatDoor
open Go.ChangeShapes Go.WideShapes Go.ChangeAt Go.RowKit
set_option linter.unusedVariables false
set_option maxRecDepth 100000
set_option maxHeartbeats 2000000 in
theorem is_some (a : Option Addr) (c0 g : Nat) (ts : List Tok) (k d e : Int) (c : UInt8) (w : World) (h : RR w g a c0 ts k d e) (he : e ≠ 0) :
  Calls Tryz.prog 98 #[.pointer (some ⟨g, 0, none⟩), .string (str [c])] w fun x w' => x = .returned (.bool (isK ts k e c)) /\ ∃ n, w' = w.drewN n := by
 obtain ⟨x0, x1, x2, x3⟩ := h.cells
 clear h
 rw [isK_err he]
 clear x0 x1 x2
 have he' : (e == 0) = false := by simp [he]
 generalize str [c] = sc
 go_enter Tryz.func98, Tryz.ntmps98
 go_wp2
 all_goals first | omega | skip
 go_quiet (fail)
 go_wp2
 all_goals first | omega | skip
 go_ret
 exact ⟨rfl, _, rfl⟩
theorem is_any (a : Option Addr) (c0 g : Nat) (ts : List Tok) (k : Nat) (d e : Int) (c : UInt8) (w : World) (h : RR w g a c0 ts k d e) :
  Calls Tryz.prog 98 #[.pointer (some ⟨g, 0, none⟩), .string (str [c])] w fun x w' => x = .returned (.bool (isK ts k e c)) /\ ∃ n, w' = w.drewN n := by
 by_cases he : e = 0
 ·subst he
  exact is_none a c0 g ts k d c w h
 ·exact is_some a c0 g ts k d e c w h he
end Go.Proofs.YtlkmegchaeokgaaGreatDoor
