/- Both Rights answer alike. -/
import Derived.Test.YtogkchgjpflmjaaGreatDoorT5
namespace Go.Proofs.YtogkchgjpflmjaaGreatDoor
open Go.ChangeShapes Go.WideShapes Go.ChangeAt Go.RowKit
set_option linter.unusedVariables false
set_option maxRecDepth 100000
set_option maxHeartbeats 1000000 in
theorem refRight_o (k : Int) (s : ByteArray) (op a b m f : Int) (va : Option Addr) (vc ln : Nat) (c n sec : Int) (h0 : sec ≠ 0) (h1 : sec ≠ 1) (w : World) :
    Calls Tryz.prog 50 #[itV k s op a b m f va ln vc c n, .int .i64 sec] w fun e w' => e = .returned (.int .i64 1) ∧ Below w.heap.size w w' := by
  have hb0 := Hid.intro (below_alloc w (.cells (itA k s op a b m f va ln vc c n) 91))
  have n0 : ¬ sec = 0 := h0
  have n1 : ¬ sec = 1 := h1
  have s0 : (sec == 0) = false := by simp [n0]
  have s1 : (sec == 1) = false := by simp [n1]
  have b0 : (sec != 0) = true := by simp [n0]
  have b1 : (sec != 1) = true := by simp [n1]
  clear h0 h1
  go_enter Tryz.func50, Tryz.ntmps50
  go_wp2
  all_goals first | omega | skip
  go_ret
  exact ⟨rfl, hb0.out⟩
theorem docRight_any (k : Int) (s : ByteArray) (hs : s.size ≤ 1100000) (op a b m f : Int) (hm : -2147483648 ≤ m ∧ m ≤ 2147483647) (va : Option Addr) (vc : Nat) (ts : List Tm) (c n sec : Int) (w : World) (hL : TmLies w va ts) (hlen : ts.length ≤ 9000000) (hN : ∀ t ∈ ts, t.name.length ≤ 1100000) :
    Calls Tryz.prog 50 #[itV k s op a b m f va ts.length vc c n, .int .i64 sec] w fun e w' => e = .returned (.int .i64 (rightN sec (okB k s op a b m f ts c n sec))) ∧ Below w.heap.size w w' := by
  by_cases hsec : sec = 0 ∨ sec = 1
  · have hn : ¬ (sec ≠ 0 ∧ sec ≠ 1) := by omega
    rw [rightN, if_neg hn, ← doc_ok k s op a b m f ts c n sec hsec]
    by_cases hk : k = 2
    · subst hk
      exact refRight_2 s op a b m f hm va vc ts c n sec hsec w hL hlen hN
    · exact refRight_k k hk s hs op a b m f va vc ts c n sec hsec w hL hlen hN
  · have hn : sec ≠ 0 ∧ sec ≠ 1 := by omega
    rw [rightN, if_pos hn]
    exact refRight_o k s op a b m f va vc ts.length c n sec hn.1 hn.2 w
end Go.Proofs.YtogkchgjpflmjaaGreatDoor
