/- cpu.Do, where what it leaves is told by a property. -/
import Derived.Test.YtlchefdddgbohaaDoorLw
namespace Go.Proofs.YtlchefdddgbohaaDoor
open Go.ChangeShapes Go.WideShapes Go.ChangeAt Go.RowKit
set_option linter.unusedVariables false
set_option linter.unusedSimpArgs false
set_option maxRecDepth 100000
section
variable {w0 w w' : World} {p : Nat} {s : St}
theorem Do_ex (Φ : St → Prop) (hT : Tab w0 ∧ Kin w0) (h : Cpu1 w0 w p s) {op n f word fr : Int} {A B : Nat} (mem : Value) (hc : checkN op A B n f = 0) (hn : -2147483648 ≤ n ∧ n ≤ 2147483647) {k t o : Int}
    (hdo : ∀ ks W, Kin W → CpuAt LP ks W p s → Calls Tryd.prog 33 #[.pointer (some ⟨p, 0, none⟩), instV op A B n f, .int .i32 word, mem, .int .i64 fr] W fun e w' => ∃ s', Φ s' ∧ Done LP ks W p s' (effV k t o) e w') :
    Calls Tryd.prog 16 #[.pointer (some ⟨p, 0, none⟩), instV op A B n f, .int .i32 word, mem, .int .i64 fr] w fun e w' => e = .returned (effV k t o) ∧ ∃ s', Φ s' ∧ Cpu1 w0 w' p s' := by
  have hTw := h.tabs hT
  obtain ⟨h1, ks, h2, h3⟩ := h
  obtain ⟨W1, hW1⟩ : ∃ W1, W1 = w.alloc (.cells #[.int .i64 op, .int .i64 A, .int .i64 B, .int .i32 n, .int .i64 f] 34) := ⟨_, rfl⟩
  obtain ⟨W0, hW0⟩ : ∃ W0, W0 = W1.alloc (.cells #[.int .i64 0, .int .i64 0, .int .u32 0] 40) := ⟨_, rfl⟩
  have hb0 := below_alloc w (.cells #[.int .i64 op, .int .i64 A, .int .i64 B, .int .i32 n, .int .i64 f] 34)
  have hI0 := inst_new w op A B n f
  rw [← hW1] at hb0 hI0
  have hs1 : W1.heap.size = w.heap.size + 1 := by rw [hW1]; simp
  have hb1 := below_alloc W1 (.cells #[.int .i64 0, .int .i64 0, .int .u32 0] 40)
  have he := eff_new W1
  rw [← hW0] at hb1 he
  rw [hs1] at he
  have hs0 : W0.heap.size = w.heap.size + 2 := by rw [hW0]; simp [hs1]
  have hbel := hb0.trans (hb1.mono hb0.size)
  have hI := hI0.below hb1 (by omega)
  have i0 := hI.o
  have i1 := hI.a
  have i2 := hI.b
  have i3 := hI.n
  have i4 := hI.f
  have hck : Calls Tryd.prog 31 #[instV op A B n f] W0 fun e w' => e = .returned (.int .i64 0) ∧ Below W0.heap.size W0 w' := by
    have := check_any op A B n f W0 (hTw.1.below hbel hTw.1.size) hn
    rw [hc] at this
    exact this
  have hAll : Hid (∀ W, Below W0.heap.size W0 W → InstAt W w.heap.size op A B n f ∧ Calls Tryd.prog 33 #[.pointer (some ⟨p, 0, none⟩), instV op A B n f, .int .i32 word, mem, .int .i64 fr] W fun e w' => e = .returned (effV k t o) ∧ w'.heap[w.heap.size + 1]? = some (.cells #[.int .i64 0, .int .i64 0, .int .u32 0] 40 (0, 0)) ∧ ∀ W3, w'.grownBy W3 (some (w.heap.size + 1)) → ∃ s', Φ s' ∧ Cpu1 w0 W3 p s') := fun W hB => by
    refine ⟨hI.below hB (by omega), ?_⟩
    have hbW := hbel.trans (hB.mono hbel.size)
    have hTW := hTw.2.below (by have := hTw.1.size; omega) hbW
    refine (hdo ks W hTW (h3.below hbW)).mono ?_
    rintro e w' ⟨s', hphi, rfl, hm, ks', hmo, hC⟩
    have hsW : w.heap.size + 2 ≤ W.heap.size := by have := hB.size; omega
    have hnq : ¬ ks (w.heap.size + 1) := fun hk => by have := h3.kl _ hk; omega
    have hnq' : ¬ ks' (w.heap.size + 1) := fun hk => (hmo.2 _ hk).elim hnq (by omega)
    refine ⟨rfl, (hm.block _ (by omega) hnq).trans ((hB.block _ (by omega)).trans he), fun W3 hg => ?_⟩
    have hbw' : Below w0.heap.size w0 w' := (h1.trans (hbW.mono h1.size)).trans ((hm.below h2 (by have := h1.size; have := hbW.size; omega)))
    refine ⟨s', hphi, hbw'.grown hg hbw'.size (fun j e => by cases e; have := h1.size; omega), ks', fun g hgk => ?_, hC.keep hg.size fun j hj => hg.block j (hC.kl j hj) fun e => hnq' (by cases e; exact hj)⟩
    rcases hmo.2 g hgk with h | h
    · exact h2 g h
    · have := h1.size; have := hbW.size; omega
  clear hI hI0 h3 hTw hdo hc hb0 hb1 he hbel hs0
  go_enter Tryd.func16, Tryd.ntmps16
  go_upto_region 1 with fail
  rw [← hW1, ← hW0]
  try rw [hs1]
  clear hW1 hW0 hs1
  go_wp2_with (first
    | (go_at_call 31; (with_reducible refine hck.mono ?_); rintro e w1 ⟨rfl, hb1⟩; obtain ⟨hJ, h33⟩ := hAll.out w1 hb1; have j0 := hJ.o; have j1 := hJ.a; have j2 := hJ.b; have j3 := hJ.n; have j4 := hJ.f; replace h33 := Hid.intro h33; clear hJ i0 i1 i2 i3 i4)
    | (go_at_call 33; (with_reducible refine h33.out.mono ?_); rintro e w2 ⟨rfl, he2, hfin⟩; have e0 := (Joins.cell_of_block he2 0).trans rfl; have e1 := (Joins.cell_of_block he2 1).trans rfl; have e2 := (Joins.cell_of_block he2 2).trans rfl; have k0 := frozen_of_row w2 (w.heap.size + 1) 0 _ _ he2; have k1 := frozen_of_row w2 (w.heap.size + 1) 1 _ _ he2; have k2 := frozen_of_row w2 (w.heap.size + 1) 2 _ _ he2; obtain ⟨zr, zg⟩ := eff_set he2 (.int .i64 k) (.int .i64 t) (.int .u32 o); have hz := hfin _ zg; have z0 := (Joins.cell_of_block zr 0).trans rfl; have z1 := (Joins.cell_of_block zr 1).trans rfl; have z2 := (Joins.cell_of_block zr 2).trans rfl; replace hz := Hid.intro hz; clear hfin zr zg he2 h33))
  refine bodyPost_ret (by simp [results, Tryd.results16, go_sem, z0, z1, z2]; try rfl) rfl ⟨rfl, hz.out⟩
end
end Go.Proofs.YtlchefdddgbohaaDoor
