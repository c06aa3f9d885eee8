/- cpu.Do, and what the laws call beside it, over one Cpu. -/
import Derived.Test.YtlchefdddgbohaaDoorCl
namespace Go.Proofs.YtlchefdddgbohaaDoor
open Go.ChangeShapes Go.WideShapes Go.ChangeAt Go.RowKit
set_option linter.unusedVariables false
set_option linter.unusedSimpArgs false
set_option maxRecDepth 100000
/-- a Cpu made behind w0; the tables lie -/
def Cpu1 (w0 w : World) (p : Nat) (s : St) : Prop := Below w0.heap.size w0 w ∧ ∃ ks, (∀ g, ks g → w0.heap.size ≤ g) ∧ CpuAt LP ks w p s
section
variable {w0 w w' : World} {p : Nat} {s s' : St}
theorem Cpu1.below (h : Cpu1 w0 w p s) (hb : Below w.heap.size w w') : Cpu1 w0 w' p s := by
  obtain ⟨h1, ks, h2, h3⟩ := h
  exact ⟨h1.trans (hb.mono h1.size), ks, h2, h3.below hb⟩
theorem Cpu1.drew (h : Cpu1 w0 w p s) : Cpu1 w0 w.drew p s := h.below (Below.refl _ _).drew
theorem Cpu1.tabs (h : Cpu1 w0 w p s) (hT : Tab w0 ∧ Kin w0) : Tab w ∧ Kin w := ⟨hT.1.below h.1 hT.1.size, hT.2.below (by have := hT.1.size; omega) h.1⟩
theorem Cpu1.done {ks : Nat → Prop} {eff : Value} {e : Ending} (h1 : Below w0.heap.size w0 w) (h2 : ∀ g, ks g → w0.heap.size ≤ g) (hd : Done LP ks w p s' eff e w') : e = .returned eff ∧ Cpu1 w0 w' p s' := by
  obtain ⟨he, hm, ks', hmo, hC⟩ := hd
  refine ⟨he, h1.trans (hm.below h2 h1.size), ks', fun g hg => ?_, hC⟩
  rcases hmo.2 g hg with h | h
  · exact h2 g h
  · exact Nat.le_trans h1.size h
theorem five_set {W : World} {q : Nat} {T : TypeId} {a b c d e : Value} (h : W.heap[q]? = some (.cells #[a, b, c, d, e] T (0, 0))) (k t o m g : Value) :
    (((((W.setCell ⟨q, 0, none⟩ k).setCell ⟨q, 1, none⟩ t).setCell ⟨q, 2, none⟩ o).setCell ⟨q, 3, none⟩ m).setCell ⟨q, 4, none⟩ g).heap[q]? = some (.cells #[k, t, o, m, g] T (0, 0)) ∧ W.grownBy (((((W.setCell ⟨q, 0, none⟩ k).setCell ⟨q, 1, none⟩ t).setCell ⟨q, 2, none⟩ o).setCell ⟨q, 3, none⟩ m).setCell ⟨q, 4, none⟩ g) (some q) := by
  obtain ⟨e1, g1⟩ := row_set h 0 k
  obtain ⟨e2, g2⟩ := row_set e1 1 t
  obtain ⟨e3, g3⟩ := row_set e2 2 o
  obtain ⟨e4, g4⟩ := row_set e3 3 m
  obtain ⟨e5, g5⟩ := row_set e4 4 g
  refine ⟨e5, ?_⟩
  have tr : ∀ {a b c : World}, a.grownBy b (some q) → b.grownBy c (some q) → a.grownBy c (some q) := fun x y => ⟨y.os.trans x.os, y.tape.trans x.tape, y.output.trans x.output, Nat.le_trans x.size y.size, fun k hk hn => (y.block k (Nat.lt_of_lt_of_le hk x.size) hn).trans (x.block k hk hn)⟩
  exact tr (tr (tr (tr g1 g2) g3) g4) g5
theorem Do_any (hT : Tab w0 ∧ Kin w0) (h : Cpu1 w0 w p s) {op n f word fr : Int} {A B : Nat} (mem : Value) (hc : checkN op A B n f = 0) (hn : -2147483648 ≤ n ∧ n ≤ 2147483647) {k t o : Int}
    (hdo : ∀ ks W, Kin W → CpuAt LP ks W p s → Calls Tryd.prog 33 #[.pointer (some ⟨p, 0, none⟩), instV op A B n f, .int .i32 word, mem, .int .i64 fr] W (Done LP ks W p s' (effV k t o))) :
    Calls Tryd.prog 16 #[.pointer (some ⟨p, 0, none⟩), instV op A B n f, .int .i32 word, mem, .int .i64 fr] w fun e w' => e = .returned (effV k t o) ∧ Cpu1 w0 w' p s' := by
  have hTw := h.tabs hT
  obtain ⟨h1, ks, h2, h3⟩ := h
  obtain ⟨W1, hW1⟩ : ∃ W1, W1 = w.alloc (.cells #[.int .i64 op, .int .i64 A, .int .i64 B, .int .i32 n, .int .i64 f] 34) := ⟨_, rfl⟩
  obtain ⟨W0, hW0⟩ : ∃ W0, W0 = W1.alloc (.cells #[.int .i64 0, .int .i64 0, .int .u32 0] 40) := ⟨_, rfl⟩
  have hb0 := below_alloc w (.cells #[.int .i64 op, .int .i64 A, .int .i64 B, .int .i32 n, .int .i64 f] 34)
  have hI0 := inst_new w op A B n f
  rw [← hW1] at hb0 hI0
  have hs1 : W1.heap.size = w.heap.size + 1 := by rw [hW1]; simp
  have hb1 := below_alloc W1 (.cells #[.int .i64 0, .int .i64 0, .int .u32 0] 40)
  have he := eff_new W1
  rw [← hW0] at hb1 he
  rw [hs1] at he
  have hs0 : W0.heap.size = w.heap.size + 2 := by rw [hW0]; simp [hs1]
  have hbel := hb0.trans (hb1.mono hb0.size)
  have hI := hI0.below hb1 (by omega)
  have i0 := hI.o
  have i1 := hI.a
  have i2 := hI.b
  have i3 := hI.n
  have i4 := hI.f
  have hck : Calls Tryd.prog 31 #[instV op A B n f] W0 fun e w' => e = .returned (.int .i64 0) ∧ Below W0.heap.size W0 w' := by
    have := check_any op A B n f W0 (hTw.1.below hbel hTw.1.size) hn
    rw [hc] at this
    exact this
  have hAll : Hid (∀ W, Below W0.heap.size W0 W → InstAt W w.heap.size op A B n f ∧ Calls Tryd.prog 33 #[.pointer (some ⟨p, 0, none⟩), instV op A B n f, .int .i32 word, mem, .int .i64 fr] W fun e w' => e = .returned (effV k t o) ∧ w'.heap[w.heap.size + 1]? = some (.cells #[.int .i64 0, .int .i64 0, .int .u32 0] 40 (0, 0)) ∧ ∀ W3, w'.grownBy W3 (some (w.heap.size + 1)) → Cpu1 w0 W3 p s') := fun W hB => by
    refine ⟨hI.below hB (by omega), ?_⟩
    have hbW := hbel.trans (hB.mono hbel.size)
    have hTW := hTw.2.below (by have := hTw.1.size; omega) hbW
    refine (hdo ks W hTW (h3.below hbW)).mono ?_
    rintro e w' ⟨rfl, hm, ks', hmo, hC⟩
    have hsW : w.heap.size + 2 ≤ W.heap.size := by have := hB.size; omega
    have hnq : ¬ ks (w.heap.size + 1) := fun hk => by have := h3.kl _ hk; omega
    have hnq' : ¬ ks' (w.heap.size + 1) := fun hk => (hmo.2 _ hk).elim hnq (by omega)
    refine ⟨rfl, (hm.block _ (by omega) hnq).trans ((hB.block _ (by omega)).trans he), fun W3 hg => ?_⟩
    have hbw' : Below w0.heap.size w0 w' := (h1.trans (hbW.mono h1.size)).trans ((hm.below h2 (by have := h1.size; have := hbW.size; omega)))
    refine ⟨hbw'.grown hg hbw'.size (fun j e => by cases e; have := h1.size; omega), ks', fun g hgk => ?_, hC.keep hg.size fun j hj => hg.block j (hC.kl j hj) fun e => hnq' (by cases e; exact hj)⟩
    rcases hmo.2 g hgk with h | h
    · exact h2 g h
    · have := h1.size; have := hbW.size; omega
  clear hI hI0 h3 hTw hdo hc hb0 hb1 he hbel hs0
  go_enter Tryd.func16, Tryd.ntmps16
  go_upto_region 1 with fail
  rw [← hW1, ← hW0]
  try rw [hs1]
  clear hW1 hW0 hs1
  go_wp2_with (first
    | (go_at_call 31; (with_reducible refine hck.mono ?_); rintro e w1 ⟨rfl, hb1⟩; obtain ⟨hJ, h33⟩ := hAll.out w1 hb1; have j0 := hJ.o; have j1 := hJ.a; have j2 := hJ.b; have j3 := hJ.n; have j4 := hJ.f; replace h33 := Hid.intro h33; clear hJ i0 i1 i2 i3 i4)
    | (go_at_call 33; (with_reducible refine h33.out.mono ?_); rintro e w2 ⟨rfl, he2, hfin⟩; have e0 := (Joins.cell_of_block he2 0).trans rfl; have e1 := (Joins.cell_of_block he2 1).trans rfl; have e2 := (Joins.cell_of_block he2 2).trans rfl; have k0 := frozen_of_row w2 (w.heap.size + 1) 0 _ _ he2; have k1 := frozen_of_row w2 (w.heap.size + 1) 1 _ _ he2; have k2 := frozen_of_row w2 (w.heap.size + 1) 2 _ _ he2; obtain ⟨zr, zg⟩ := eff_set he2 (.int .i64 k) (.int .i64 t) (.int .u32 o); have hz := hfin _ zg; have z0 := (Joins.cell_of_block zr 0).trans rfl; have z1 := (Joins.cell_of_block zr 1).trans rfl; have z2 := (Joins.cell_of_block zr 2).trans rfl; replace hz := Hid.intro hz; clear hfin zr zg he2 h33))
  refine bodyPost_ret (by simp [results, Tryd.results16, go_sem, z0, z1, z2]; try rfl) rfl ⟨rfl, hz.out⟩
theorem op_any (nm0 : ByteArray) (a b n : Int) (w : World) : Calls Tryd.prog 15 #[.string nm0, .int .i64 a, .int .i64 b, .int .i32 n] w fun e w' => e = .returned (instV (findN (nm nm0)) a b n 0) ∧ Below w.heap.size w w' := by
  obtain ⟨W0, hW0⟩ : ∃ W0, W0 = w.alloc (.cells #[.int .i64 0, .int .i64 0, .int .i64 0, .int .i32 0, .int .i64 0] 34) := ⟨_, rfl⟩
  have hb0 := below_alloc w (.cells #[.int .i64 0, .int .i64 0, .int .i64 0, .int .i32 0, .int .i64 0] 34)
  have he := heap_alloc_new w (.cells #[.int .i64 0, .int .i64 0, .int .i64 0, .int .i32 0, .int .i64 0] 34)
  rw [← hW0] at hb0 he
  have hlt := wblk_lt he
  have hF := fun W => refFind_any nm0 W
  generalize findN (nm nm0) = o at *
  have hbH := Hid.intro hb0
  clear hb0
  go_enter Tryd.func15, Tryd.ntmps15
  go_upto_region 1 with fail
  rw [← hW0]
  clear hW0
  go_wp2_with (go_at_call 30; (with_reducible refine (hF _).mono ?_); rintro e w1 ⟨rfl, hb1⟩; have he1 := (hb1.block _ hlt).trans he; have e0 := (Joins.cell_of_block he1 0).trans rfl; have e1 := (Joins.cell_of_block he1 1).trans rfl; have e2 := (Joins.cell_of_block he1 2).trans rfl; have e3 := (Joins.cell_of_block he1 3).trans rfl; have e4 := (Joins.cell_of_block he1 4).trans rfl; have k0 := frozen_of_row w1 w.heap.size 0 _ _ he1; have k1 := frozen_of_row w1 w.heap.size 1 _ _ he1; have k2 := frozen_of_row w1 w.heap.size 2 _ _ he1; have k3 := frozen_of_row w1 w.heap.size 3 _ _ he1; have k4 := frozen_of_row w1 w.heap.size 4 _ _ he1; obtain ⟨zr, zg⟩ := five_set he1 (.int .i64 o) (.int .i64 a) (.int .i64 b) (.int .i32 n) (.int .i64 0); have z0 := (Joins.cell_of_block zr 0).trans rfl; have z1 := (Joins.cell_of_block zr 1).trans rfl; have z2 := (Joins.cell_of_block zr 2).trans rfl; have z3 := (Joins.cell_of_block zr 3).trans rfl; have z4 := (Joins.cell_of_block zr 4).trans rfl; have hbz := Hid.intro ((hbH.out.trans (hb1.mono hbH.out.size)).grown zg (by have := hbH.out.size; have := hb1.size; omega) (fun j e => by cases e; omega)); clear zr zg hb1 he1)
  refine bodyPost_ret (by simp [results, Tryd.results15, go_sem, z0, z1, z2, z3, z4]; try rfl) rfl ⟨rfl, hbz.out⟩
theorem reg_any (h : Cpu1 w0 w p s) {k : Nat} (hk : k < 8) : Calls Tryd.prog 11 #[.pointer (some ⟨p, 0, none⟩), .int .i64 k] w fun e w' => e = .returned (.int .i32 (s.r k)) ∧ w' = w := by
  obtain ⟨_, ks, _, hC⟩ := h
  have hr := hC.reg hk
  have h1 : (k : Int) < 8 := by omega
  have h0 : (0 : Int) ≤ (k : Int) := by omega
  have h2 : ¬ (k : Int) ≥ 8 := by omega
  have h3 : ¬ (k : Int) < 0 := by omega
  clear hC
  go_enter Tryd.func11, Tryd.ntmps11
  go_wp2
  go_ret
  exact ⟨rfl, rfl⟩
end
end Go.Proofs.YtlchefdddgbohaaDoor
