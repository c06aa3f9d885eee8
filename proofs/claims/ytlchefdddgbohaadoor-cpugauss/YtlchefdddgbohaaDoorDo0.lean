/- cpu.do: what its walks share. -/
import Derived.Test.YtlchefdddgbohaaDoorCp2
import Derived.Test.YtlchefdddgbohaaDoorLen
import Derived.Deep.RegionHeld3
import Derived.Deep.RegionWith
import Derived.BigRegion
namespace Go.Proofs.YtlchefdddgbohaaDoor
open Go.ChangeShapes Go.WideShapes Go.ChangeAt Go.RowKit
set_option linter.unusedVariables false
set_option linter.unusedSimpArgs false
set_option maxRecDepth 100000
section
variable {ks ks1 : Nat → Prop} {w W W2 : World} {p q : Nat} {s s' : St}
theorem eff_new (w : World) : (w.alloc (.cells #[.int .i64 0, .int .i64 0, .int .u32 0] 40)).heap[w.heap.size]? = some (.cells #[.int .i64 0, .int .i64 0, .int .u32 0] 40 (0, 0)) := heap_alloc_new w _
theorem eff_set {T : TypeId} {a b c : Value} (h : W.heap[q]? = some (.cells #[a, b, c] T (0, 0))) (k t o : Value) :
    (((W.setCell ⟨q, 0, none⟩ k).setCell ⟨q, 1, none⟩ t).setCell ⟨q, 2, none⟩ o).heap[q]? = some (.cells #[k, t, o] T (0, 0)) ∧ W.grownBy (((W.setCell ⟨q, 0, none⟩ k).setCell ⟨q, 1, none⟩ t).setCell ⟨q, 2, none⟩ o) (some q) := by
  obtain ⟨e1, g1⟩ := row_set h 0 k
  obtain ⟨e2, g2⟩ := row_set e1 1 t
  obtain ⟨e3, g3⟩ := row_set e2 2 o
  refine ⟨e3, ?_⟩
  have tr : ∀ {a b c : World}, a.grownBy b (some q) → b.grownBy c (some q) → a.grownBy c (some q) := fun x y => ⟨y.os.trans x.os, y.tape.trans x.tape, y.output.trans x.output, Nat.le_trans x.size y.size, fun k hk hn => (y.block k (Nat.lt_of_lt_of_le hk x.size) hn).trans (x.block k hk hn)⟩
  exact tr (tr g1 g2) g3
theorem do_end {L : Lay} {T : TypeId} {a b c : Value} (he : W2.heap[q]? = some (.cells #[a, b, c] T (0, 0))) (hm : Moved ks w W2) (hmo : More ks ks1 w) (hC2 : CpuAt L ks1 W2 p s') (hq : w.heap.size ≤ q) (hn : ¬ ks1 q) (k t o : Value) :
    ((((W2.setCell ⟨q, 0, none⟩ k).setCell ⟨q, 1, none⟩ t).setCell ⟨q, 2, none⟩ o).cell? ⟨q, 0, none⟩ = some k ∧ (((W2.setCell ⟨q, 0, none⟩ k).setCell ⟨q, 1, none⟩ t).setCell ⟨q, 2, none⟩ o).cell? ⟨q, 1, none⟩ = some t ∧ (((W2.setCell ⟨q, 0, none⟩ k).setCell ⟨q, 1, none⟩ t).setCell ⟨q, 2, none⟩ o).cell? ⟨q, 2, none⟩ = some o) ∧
    Moved ks w (((W2.setCell ⟨q, 0, none⟩ k).setCell ⟨q, 1, none⟩ t).setCell ⟨q, 2, none⟩ o) ∧ ∃ ks', More ks ks' w ∧ CpuAt L ks' (((W2.setCell ⟨q, 0, none⟩ k).setCell ⟨q, 1, none⟩ t).setCell ⟨q, 2, none⟩ o) p s' := by
  obtain ⟨e, g⟩ := eff_set he k t o
  refine ⟨⟨(Joins.cell_of_block e 0).trans rfl, (Joins.cell_of_block e 1).trans rfl, (Joins.cell_of_block e 2).trans rfl⟩, ?_, ks1, hmo, hC2.keep g.size fun j hj => g.block j (hC2.kl j hj) fun e => hn (by cases e; exact hj)⟩
  have hm' : Moved (fun g => ks g ∨ w.heap.size ≤ g) w (((W2.setCell ⟨q, 0, none⟩ k).setCell ⟨q, 1, none⟩ t).setCell ⟨q, 2, none⟩ o) :=
    Moved.grown (ks := fun g => ks g ∨ w.heap.size ≤ g) ⟨hm.os, hm.tape, hm.output, hm.size, fun g hg hn => hm.block g hg fun h => hn (.inl h)⟩ g (fun j e => by cases e; exact .inr hq)
  exact ⟨hm'.os, hm'.tape, hm'.output, hm'.size, fun g hg hn => hm'.block g hg fun h => h.elim hn fun h => by omega⟩
/-- the facts that a walk begins with -/
theorem do_pre (h : CpuAt LP ks w p s) (op n f : Int) {A B : Nat} (hB : B < 8) {W1 W0 : World} (hW1 : W1 = w.alloc (.cells #[.int .i64 op, .int .i64 A, .int .i64 B, .int .i32 n, .int .i64 f] 34)) (hW0 : W0 = W1.alloc (.cells #[.int .i64 0, .int .i64 0, .int .u32 0] 40)) :
    W1.heap.size = w.heap.size + 1 ∧ W0.drew.heap.size = w.heap.size + 2 ∧ Below w.heap.size w W0.drew ∧ InstAt W0.drew w.heap.size op A B n f ∧ W0.drew.heap[w.heap.size + 1]? = some (.cells #[.int .i64 0, .int .i64 0, .int .u32 0] 40 (0, 0)) ∧ CpuAt LP ks W0.drew p s := by
  have hb0 := below_alloc w (.cells #[.int .i64 op, .int .i64 A, .int .i64 B, .int .i32 n, .int .i64 f] 34)
  have hI0 := inst_new w op A B n f
  rw [← hW1] at hb0 hI0
  have hs1 : W1.heap.size = w.heap.size + 1 := by rw [hW1]; simp
  have hb1 := below_alloc W1 (.cells #[.int .i64 0, .int .i64 0, .int .u32 0] 40)
  have he := eff_new W1
  rw [← hW0] at hb1 he
  rw [hs1] at he
  have hs0 : W0.heap.size = w.heap.size + 2 := by rw [hW0]; simp [hs1]
  have hbel := hb0.trans (hb1.mono hb0.size)
  exact ⟨hs1, hs0, hbel.drew, (hI0.below hb1 (by omega)).drew, he, (h.below hbel).drew⟩
end
end Go.Proofs.YtlchefdddgbohaaDoor
