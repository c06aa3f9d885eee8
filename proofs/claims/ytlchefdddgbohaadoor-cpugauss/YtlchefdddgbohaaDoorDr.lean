/- cpu.do: behind a callee. -/
import Derived.Test.YtlchefdddgbohaaDoorDo0
namespace Go.Proofs.YtlchefdddgbohaaDoor
open Go.ChangeShapes Go.WideShapes Go.ChangeAt Go.RowKit
set_option linter.unusedVariables false
set_option maxRecDepth 100000
section
variable {ks : Nat → Prop} {w W w2 : World} {p q : Nat} {s' : St}
theorem do_ret {L : Lay} {T : TypeId} {a b c : Value} (hbd : Below w.heap.size w W) (hq : w.heap.size ≤ q) (hqW : q < W.heap.size) (hkl : ∀ g, ks g → g < w.heap.size) (heD : W.heap[q]? = some (.cells #[a, b, c] T (0, 0))) (hd : Moved ks W w2 ∧ ∃ ks', More ks ks' W ∧ CpuAt L ks' w2 p s') (k t o : Value) :
    w2.heap[q]? = some (.cells #[a, b, c] T (0, 0)) ∧ ((((w2.setCell ⟨q, 0, none⟩ k).setCell ⟨q, 1, none⟩ t).setCell ⟨q, 2, none⟩ o).cell? ⟨q, 0, none⟩ = some k ∧ (((w2.setCell ⟨q, 0, none⟩ k).setCell ⟨q, 1, none⟩ t).setCell ⟨q, 2, none⟩ o).cell? ⟨q, 1, none⟩ = some t ∧ (((w2.setCell ⟨q, 0, none⟩ k).setCell ⟨q, 1, none⟩ t).setCell ⟨q, 2, none⟩ o).cell? ⟨q, 2, none⟩ = some o) ∧
    Moved ks w (((w2.setCell ⟨q, 0, none⟩ k).setCell ⟨q, 1, none⟩ t).setCell ⟨q, 2, none⟩ o) ∧ ∃ ks', More ks ks' w ∧ CpuAt L ks' (((w2.setCell ⟨q, 0, none⟩ k).setCell ⟨q, 1, none⟩ t).setCell ⟨q, 2, none⟩ o) p s' := by
  obtain ⟨hm, ks', hmo, hC⟩ := hd
  have hnq : ¬ ks q := fun hk => by have := hkl _ hk; omega
  have hnq' : ¬ ks' q := fun hk => (hmo.2 _ hk).elim hnq (by omega)
  have he2 := (hm.block _ hqW hnq).trans heD
  have hmw : Moved ks w w2 := (Moved.of_below hbd).trans hm (More.refl ks w)
  have hmow : More ks ks' w := ⟨hmo.1, fun g hg => (hmo.2 g hg).imp id (fun h => Nat.le_trans hbd.size h)⟩
  obtain ⟨z, hd⟩ := do_end he2 hmw hmow hC hq hnq' k t o
  exact ⟨he2, z, hd⟩
end
end Go.Proofs.YtlchefdddgbohaaDoor
