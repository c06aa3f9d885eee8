/- cpu.div. -/
import Derived.Test.YtlchefdddgbohaaDoorDoR
namespace Go.Proofs.YtlchefdddgbohaaDoor
open Go.ChangeShapes Go.WideShapes Go.ChangeAt Go.RowKit
set_option linter.unusedVariables false
set_option linter.unusedSimpArgs false
set_option maxRecDepth 100000
def divN (a b : Int) : Int := wrap32 (a.tdiv b)
section
variable {ks : Nat → Prop} {w : World} {p : Nat} {s : St}
set_option maxHeartbeats 4000000 in
theorem div_no (h : CpuAt LP ks w p s) {A : Nat} (hA : A < 8) : Calls Tryd.prog 50 #[.pointer (some ⟨p, A, none⟩), .int .i32 0] w (Done LP ks w p s (effV 6 2 0)) := by
  obtain ⟨W, hW⟩ : ∃ W, W = w.alloc (.cells #[.int .i64 0, .int .i64 0, .int .u32 0] 40) := ⟨_, rfl⟩
  have hb := below_alloc w (.cells #[.int .i64 0, .int .i64 0, .int .u32 0] 40)
  have he := eff_new w
  rw [← hW] at hb he
  have hlt := wblk_lt he
  have hT := Hid.intro (trapped_any 2 W)
  have hH := Hid.intro h
  have hbH := Hid.intro hb
  have hkl := Hid.intro h.kl
  clear h hb
  go_enter Tryd.func50, Tryd.ntmps50
  go_upto_region 1 with fail
  rw [← hW]
  clear hW
  go_wp2_with (go_at_call 32; (refine hT.out.mono ?_); rintro e w1 ⟨rfl, hb1⟩; have he1 := (hb1.block _ hlt).trans he; have hbb := hbH.out.trans (hb1.mono hbH.out.size); obtain ⟨⟨z0, z1, z2⟩, hd⟩ := do_end he1 (Moved.of_below hbb) (More.refl ks w) (hH.out.below hbb) (Nat.le_refl _) (fun hk => by have := hkl.out _ hk; omega) (.int .i64 6) (.int .i64 2) (.int .u32 0); have e0 := (Joins.cell_of_block he1 0).trans rfl; have e1 := (Joins.cell_of_block he1 1).trans rfl; have e2 := (Joins.cell_of_block he1 2).trans rfl; have k0 := frozen_of_row w1 w.heap.size 0 _ _ he1; have k1 := frozen_of_row w1 w.heap.size 1 _ _ he1; have k2 := frozen_of_row w1 w.heap.size 2 _ _ he1; clear he1 hb1 hbb)
  refine bodyPost_ret (by simp [results, Tryd.results50, go_sem, z0, z1, z2]; try rfl) rfl ⟨rfl, hd⟩
set_option maxHeartbeats 4000000 in
theorem div_yes (h : CpuAt LP ks w p s) {A : Nat} (hA : A < 8) {b : Int} (hb0 : b ≠ 0) : Calls Tryd.prog 50 #[.pointer (some ⟨p, A, none⟩), .int .i32 b] w (Done LP ks w p { s with r := upd s.r A (divN (s.r A) b) } (effV 0 0 0)) := by
  obtain ⟨W, hW⟩ : ∃ W, W = w.alloc (.cells #[.int .i64 0, .int .i64 0, .int .u32 0] 40) := ⟨_, rfl⟩
  have hb := below_alloc w (.cells #[.int .i64 0, .int .i64 0, .int .u32 0] 40)
  have he := eff_new w
  rw [← hW] at hb he
  have hlt := h.lt
  have hne : ¬ p = w.heap.size := by omega
  have hne2 : ¬ w.heap.size = p := by omega
  have hC := h.below hb
  have rA := hC.reg hA
  have fA := hC.fz A
  have hkl := Hid.intro h.kl
  have e0 := (Joins.cell_of_block he 0).trans rfl
  have e1 := (Joins.cell_of_block he 1).trans rfl
  have e2 := (Joins.cell_of_block he 2).trans rfl
  have k0 := frozen_of_row W w.heap.size 0 _ _ he
  have k1 := frozen_of_row W w.heap.size 1 _ _ he
  have k2 := frozen_of_row W w.heap.size 2 _ _ he
  obtain ⟨hC2, hg2⟩ := hC.setR okP hA (wrap32_rb ((s.r A).tdiv b))
  have he2 := (hg2.block _ (wblk_lt he) (fun e => hne2 (Option.some.inj e))).trans he
  obtain ⟨⟨z0, z1, z2⟩, hd⟩ := do_end he2 ((Moved.of_below hb).grown hg2 (fun j e => by cases e; exact h.kp)) (More.refl ks w) hC2 (Nat.le_refl _) (fun hk => by have := hkl.out _ hk; omega) (.int .i64 0) (.int .i64 0) (.int .u32 0)
  clear h hC hC2 hg2 he he2 hb
  go_enter Tryd.func50, Tryd.ntmps50
  go_upto_region 1 with fail
  rw [← hW]
  clear hW
  go_wp2
  refine bodyPost_ret (by simp [results, Tryd.results50, go_sem, z0, z1, z2]; try rfl) rfl ⟨rfl, hd⟩
end
end Go.Proofs.YtlchefdddgbohaaDoor
