/- cpu.print, cpu.push. -/
import Derived.Test.YtlchefdddgbohaaDoorPs
namespace Go.Proofs.YtlchefdddgbohaaDoor
open Go.ChangeShapes Go.WideShapes Go.ChangeAt Go.RowKit
set_option linter.unusedVariables false
set_option linter.unusedSimpArgs false
set_option maxRecDepth 100000
section
variable {ks : Nat → Prop} {w : World} {p : Nat} {s : St}
theorem ofs_out : LP.oo = 269 := rfl
set_option maxHeartbeats 8000000 in
theorem print_no (h : CpuAt LP ks w p s) (x : Int) (hl : s.out.length = 4096) : Calls Tryd.prog 45 #[.pointer (some ⟨p, 0, none⟩), .int .i32 x] w (Done LP ks w p s (effV 6 7 0)) := by
  obtain ⟨W, hW⟩ : ∃ W, W = w.alloc (.cells #[.int .i64 0, .int .i64 0, .int .u32 0] 40) := ⟨_, rfl⟩
  have hb := below_alloc w (.cells #[.int .i64 0, .int .i64 0, .int .u32 0] 40)
  have he := eff_new w
  rw [← hW] at hb he
  have hlt := wblk_lt he
  have hC := h.below hb
  obtain ⟨cs, vs, vo, va, h1, h2, h3, h4, _⟩ := hC.mem
  obtain ⟨ao, co, rfl⟩ := own_slice h4
  rw [hl] at h2
  have co' := (Joins.cell_of_block h1 269).trans h2.ou
  have hT := Hid.intro (trapped_any 7 W)
  have hH := Hid.intro h
  have hbH := Hid.intro hb
  have hkl := Hid.intro h.kl
  clear h hb hC h1 h2 h3 h4
  go_enter Tryd.func45, Tryd.ntmps45
  go_upto_region 1 with fail
  rw [← hW]
  clear hW
  go_wp2_with (go_at_call 32; (refine hT.out.mono ?_); rintro e w2 ⟨rfl, hb1⟩; obtain ⟨he2, ⟨z0, z1, z2⟩, hd⟩ := do_ret (q := w.heap.size) hbH.out (Nat.le_refl _) hlt hkl.out he ⟨Moved.of_below hb1, ks, More.refl _ _, (hH.out.below hbH.out).below hb1⟩ (.int .i64 6) (.int .i64 7) (.int .u32 0); have e0 := (Joins.cell_of_block he2 0).trans rfl; have e1 := (Joins.cell_of_block he2 1).trans rfl; have e2 := (Joins.cell_of_block he2 2).trans rfl; have k0 := frozen_of_row w2 w.heap.size 0 _ _ he2; have k1 := frozen_of_row w2 w.heap.size 1 _ _ he2; have k2 := frozen_of_row w2 w.heap.size 2 _ _ he2; clear he2 hb1)
  refine bodyPost_ret (by simp [results, Tryd.results45, go_sem, z0, z1, z2]; try rfl) rfl ⟨rfl, hd⟩
set_option maxHeartbeats 8000000 in
theorem print_yes (h : CpuAt LP ks w p s) {x : Int} (hx : -2147483648 ≤ x ∧ x ≤ 2147483647) (hl : s.out.length < 4096) : Calls Tryd.prog 45 #[.pointer (some ⟨p, 0, none⟩), .int .i32 x] w (Done LP ks w p { s with out := s.out ++ [x] } (effV 0 0 0)) := by
  obtain ⟨W, hW⟩ : ∃ W, W = w.alloc (.cells #[.int .i64 0, .int .i64 0, .int .u32 0] 40) := ⟨_, rfl⟩
  have hb := below_alloc w (.cells #[.int .i64 0, .int .i64 0, .int .u32 0] 40)
  have he := eff_new w
  rw [← hW] at hb he
  have hlt := wblk_lt he
  have hC := h.below hb
  obtain ⟨cs, vs, vo, va, h1, h2, h3, h4, _⟩ := hC.mem
  obtain ⟨ao, co, rfl⟩ := own_slice h4
  have co' := (Joins.cell_of_block h1 269).trans h2.ou
  obtain ⟨n, hn⟩ : ∃ n, n = s.out.length := ⟨_, rfl⟩
  have hn2 : n < 4096 := by omega
  have hn3 : ¬ ((n : Int) = 4096) := by omega
  obtain ⟨W2, hW2⟩ : ∃ W2, W2 = W.alloc (.cells #[.int .i32 x] 21) := ⟨_, rfl⟩
  have hb2 := below_alloc W (.cells #[.int .i32 x] 21)
  have hx2 := heap_alloc_new W (.cells #[.int .i32 x] 21)
  rw [← hW2] at hb2 hx2
  have hC2 := hC.below hb2
  have h42 := h4.alloc (.cells #[.int .i32 x] 21)
  rw [← hW2] at h42
  have co2 := (hb2.cell (p := ⟨p, 269, none⟩) hC.lt).trans co'
  have hsrc : Src W2 (.slice (some ⟨W.heap.size, 0, none⟩) 1 1) 1 [.int .i32 x] := .inr ⟨_, _, rfl, fun j u hu => by
    match j with
    | 0 =>
      have e : (⟨W.heap.size, 0, none⟩ : Addr).add 0 = ⟨W.heap.size, 0, none⟩ := by unfold Addr.add; split <;> simp_all
      rw [e]
      exact ((Joins.cell_of_block hx2 0).trans rfl).trans hu
    | j + 1 => simp at hu⟩
  have hb3 := hb.trans (hb2.mono hb.size)
  have he2 := (hb2.block _ hlt).trans he
  have hlt2 := wblk_lt he2
  rw [← hn] at co' co2 h42
  have hfin : Hid (∀ v4 w4, w4.ownsRow 0 21 1 v4 (n + 1) (rowI s.out ++ [.int .i32 x]) → W2.grownBy w4 (Value.slice ao n co).ownBlock → (v4.ownBlock = (Value.slice ao n co).ownBlock ∨ v4.ownBlock = some W2.heap.size) → w4.cell? ⟨p, 269, none⟩ = some (.slice ao n co) ∧ w4.frozen? ⟨p, 269, none⟩ = false ∧ (w4.setCell ⟨p, 269, none⟩ v4).heap[w.heap.size]? = some (.cells #[.int .i64 0, .int .i64 0, .int .u32 0] 40 (0, 0)) ∧
      Moved ks w ((((w4.setCell ⟨p, 269, none⟩ v4).setCell ⟨w.heap.size, 0, none⟩ (.int .i64 0)).setCell ⟨w.heap.size, 1, none⟩ (.int .i64 0)).setCell ⟨w.heap.size, 2, none⟩ (.int .u32 0)) ∧ ∃ ks', More ks ks' w ∧ CpuAt LP ks' ((((w4.setCell ⟨p, 269, none⟩ v4).setCell ⟨w.heap.size, 0, none⟩ (.int .i64 0)).setCell ⟨w.heap.size, 1, none⟩ (.int .i64 0)).setCell ⟨w.heap.size, 2, none⟩ (.int .u32 0)) p { s with out := s.out ++ [x] }) := fun v4 w4 ho hg hw => by
    rw [hn] at ho hg hw co2 ⊢
    obtain ⟨y1, y2, y3⟩ := hC2.out okP hx co2 ho hg hw
    obtain ⟨e3, _, hd⟩ := do_ret (q := w.heap.size) hb3 (Nat.le_refl _) hlt2 h.kl he2 y3 (.int .i64 0) (.int .i64 0) (.int .u32 0)
    exact ⟨y1, y2, e3, hd⟩
  obtain ⟨i1, hi1, hz0, hz1, hz2⟩ := info_parts info21
  have hm1 : n + 1 ≤ maxLen := by unfold maxLen; omega
  have hm2 : ((n + 1) + (n + 1) / 4 + 192) * 4 ≤ 281474976710656 := by omega
  have hone : ∀ u ∈ [Value.int .i32 x], u.oneCell' = true := fun u hu => by rw [List.mem_singleton.1 hu]; rfl
  have h42 := Hid.intro h42
  have hsrc := Hid.intro hsrc
  have hone := Hid.intro hone
  clear h hb hC hC2 h1 h2 h3 h4 hb2 hb3 hx2 he he2 hlt hlt2 hn co2 hl
  subst hW2
  have hm3 : 0 ≤ (W.alloc (.cells #[.int .i32 x] 21)).heap.size := Nat.zero_le _
  go_enter Tryd.func45, Tryd.ntmps45
  go_upto_region 1 with fail
  rw [← hW]
  clear hW
  go_wp2_with (at_builtin; go_must (refine wpList_app rfl (.tmp 16) (.tmp 18) 26 rfl 0 21 i1 _ 1 4 Tryd.underlying26 hi1 hz0 hz1 hz2 rfl (by decide) (.slice ao n co) n (rowI s.out) rfl h42.out (.slice (some ⟨W.heap.size, 0, none⟩) 1 1) 1 [.int .i32 x] rfl hsrc.out rfl hone.out hm1 hm2 hm3 ?_; intro v4 w4 ho4 hg4 hw4; obtain ⟨a4, c4, rfl⟩ := own_slice ho4; obtain ⟨y1, y2, he3, hd⟩ := hfin.out _ w4 ho4 hg4 hw4; have e0 := (Joins.cell_of_block he3 0).trans rfl; have e1 := (Joins.cell_of_block he3 1).trans rfl; have e2 := (Joins.cell_of_block he3 2).trans rfl; have k0 := frozen_of_row _ w.heap.size 0 _ _ he3; have k1 := frozen_of_row _ w.heap.size 1 _ _ he3; have k2 := frozen_of_row _ w.heap.size 2 _ _ he3; have zz := (eff_set he3 (.int .i64 0) (.int .i64 0) (.int .u32 0)).1; have z0 := (Joins.cell_of_block zz 0).trans rfl; have z1 := (Joins.cell_of_block zz 1).trans rfl; have z2 := (Joins.cell_of_block zz 2).trans rfl; replace hd := Hid.intro hd; clear ho4 hg4 hw4 he3 zz))
  all_goals refine bodyPost_ret (by simp [results, Tryd.results45, go_sem, z0, z1, z2]; try rfl) rfl ⟨rfl, hd.out⟩
end
end Go.Proofs.YtlchefdddgbohaaDoor
