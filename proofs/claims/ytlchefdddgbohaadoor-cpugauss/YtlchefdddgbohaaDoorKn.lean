/- known(): the run. -/
import Derived.Test.YtlchefdddgbohaaDoorEx
namespace Go.Proofs.YtlchefdddgbohaaDoor
open Go.ChangeShapes Go.WideShapes Go.ChangeAt Go.RowKit Go.Ev
set_option linter.unusedVariables false
set_option maxRecDepth 1000000
theorem known_run : isB true (runY TY EX FN 3000 17 [] ⟨.lf, 0, tabs⟩) = true := by decide +kernel
theorem known_any (W : World) (ht : Tab W ∧ Kin W) : Calls Tryd.prog 17 #[] W fun e W' => e = .returned (.bool true) ∧ Below W.heap.size W W' := by
  obtain ⟨h', hr⟩ := runB known_run
  exact runF_lit (args := []) tyOK fnOK exOK (by rfl) rfl ((runY_eq _ _ _ _ _ _ _).symm.trans hr) rfl (by intro e; cases e) W (tabs_is ht.1 ht.2) fun w' hb => ⟨rfl, hb⟩
end Go.Proofs.YtlchefdddgbohaaDoor
