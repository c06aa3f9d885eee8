/- cpu.whole, of whole numbers. -/
import Derived.Test.YtlchefdddgbohaaDoorDr
import Derived.Test.YtlchefdddgbohaaDoorCl
namespace Go.Proofs.YtlchefdddgbohaaDoor
open Go.ChangeShapes Go.WideShapes Go.ChangeAt Go.RowKit
set_option linter.unusedVariables false
set_option linter.unusedSimpArgs false
set_option maxRecDepth 100000
open PlainF
theorem signed0 (s : Bool) (m : Nat) : Ieee.signed s m 0 = if s then -(m : Int) else m := by rw [signed_eq]; simp
theorem trunc_rep {x : Nat} {n : Int} (hx : Rep x n) (hn : n.natAbs < 2 ^ 53) : Rep (truncN x) n ∧ ¬ IsN x := by
  have t := toInt_rep hx
  obtain ⟨s, m, e, r, he, h⟩ := hx
  refine ⟨?_, fun ⟨s', f', h'⟩ => by rw [r] at h'; cases h'⟩
  have hd : FloatKind.f64.decode x = .number s m e := r
  unfold truncN
  rw [hd]
  rw [r] at t
  have t2 : Ieee.signed s (Ieee.Toward.zero.cut s (m <<< e.toNat) (-e).toNat) 0 = n := Option.some.inj t
  show Rep (Ieee.double.write (.number s (Ieee.Toward.zero.cut s (m <<< e.toNat) (-e).toNat) 0)) n
  generalize Ieee.Toward.zero.cut s (m <<< e.toNat) (-e).toNat = c at *
  rw [signed0] at t2
  have hc : c < 2 ^ 53 := by cases s <;> simp at t2 <;> omega
  have := write_rep s c 0 1074 c (by omega) (by omega) hc (by rw [show ((0 : Int) + (1074 : Nat)).toNat = 1074 by decide])
  rw [t2] at this
  exact this
theorem run_neqF (x y : Nat) (w : World) : (binOp .neq 103 (.float .f64 x) (.float .f64 y)).run Tryd.prog w = .ok (.bool (Ieee.double.order x y != some .eq)) w := by kernel_rfl
theorem run_lssF (x y : Nat) (w : World) : (binOp .lss 103 (.float .f64 x) (.float .f64 y)).run Tryd.prog w = .ok (.bool (Ieee.double.order x y == some .lt)) w := by kernel_rfl
theorem run_gtrF (x y : Nat) (w : World) : (binOp .gtr 103 (.float .f64 x) (.float .f64 y)).run Tryd.prog w = .ok (.bool (Ieee.double.order x y == some .gt)) w := by kernel_rfl
theorem lo_rep : Rep 13970166044103278592 (-2147483648) := by
  have h := nearest_rep (-2147483648) (by decide)
  have e : FloatKind.f64.nearest (-2147483648) = 13970166044103278592 := by decide +kernel
  rw [e] at h
  exact h
theorem hi_rep : Rep 4746794007244308480 2147483647 := by
  have h := nearest_rep 2147483647 (by decide)
  have e : FloatKind.f64.nearest 2147483647 = 4746794007244308480 := by decide +kernel
  rw [e] at h
  exact h
theorem conv_rep {x : Nat} {n : Int} (hx : Rep x n) (hn : -2147483648 ≤ n ∧ n ≤ 2147483647) (W : World) : (convert 103 21 (.float .f64 x)).run Tryd.prog W = .ok (.int .i32 n) W := by
  have e : (convert 103 21 (.float .f64 x)).run Tryd.prog W = (Conv.floatToInt .f64 x .i32).run Tryd.prog W := by kernel_rfl
  rw [e]
  unfold Conv.floatToInt
  have t : (FloatKind.f64.decode x).toInt .zero = some n := toInt_rep hx
  simp only [t]
  have h1 : IntKind.i32.min ≤ n ∧ n ≤ IntKind.i32.max := hn
  rw [if_pos h1]
  rfl
section
variable {ks : Nat → Prop} {w : World} {p : Nat} {s : St}
set_option maxHeartbeats 4000000 in
theorem whole_yes (h : CpuAt LP ks w p s) {A : Nat} (hA : A < 8) {x : Nat} {n : Int} (hx : Rep x n) (hn : -2147483648 ≤ n ∧ n ≤ 2147483647) : Calls Tryd.prog 56 #[.pointer (some ⟨p, A, none⟩), .float .f64 x] w (Done LP ks w p { s with r := upd s.r A n } (effV 0 0 0)) := by
  obtain ⟨W, hW⟩ : ∃ W, W = w.alloc (.cells #[.int .i64 0, .int .i64 0, .int .u32 0] 40) := ⟨_, rfl⟩
  have hb := below_alloc w (.cells #[.int .i64 0, .int .i64 0, .int .u32 0] 40)
  have he := eff_new w
  rw [← hW] at hb he
  have hlt := h.lt
  have hne : ¬ p = w.heap.size := by omega
  have hne2 : ¬ w.heap.size = p := by omega
  have hltW := wblk_lt he
  obtain ⟨hy, hnx⟩ := trunc_rep hx (by omega)
  have hT : Hid (Calls Tryd.prog 66 #[.float .f64 x] W fun e w' => e = .returned (.float .f64 (truncN x)) ∧ (CpuAt LP ks w' p s ∧ Below W.heap.size W w')) := by
    refine (trunc_any x W).mono ?_
    rintro e w' ⟨hw, y, rfl, _, h2⟩
    have hbw := drew_two hw
    rw [h2 hnx]
    exact ⟨rfl, (h.below hb).below hbw, hbw⟩
  have f1 : FloatKind.f64.format.order x (truncN x) = some Ordering.eq := by
    have := order_rep hx hy
    rw [show compare n n = Ordering.eq by simp [compare, compareOfLessAndEq]] at this
    exact this
  have f2 : ¬ FloatKind.f64.format.order x 13970166044103278592 = some Ordering.lt := by
    have := order_rep hx lo_rep
    rw [show FloatKind.f64.format.order x 13970166044103278592 = _ from this]
    have h1 : ¬ n < -2147483648 := by omega
    simp [compare, compareOfLessAndEq, h1]
    split <;> simp
  have f3 : ¬ FloatKind.f64.format.order x 4746794007244308480 = some Ordering.gt := by
    have := order_rep hx hi_rep
    rw [show FloatKind.f64.format.order x 4746794007244308480 = _ from this]
    by_cases h1 : n < 2147483647
    · simp [compare, compareOfLessAndEq, h1]
    · have : n = 2147483647 := by omega
      subst this
      decide
  have f4 : (FloatKind.f64.format.order x 13970166044103278592 == some Ordering.lt) = false := by simpa using f2
  have f5 : (FloatKind.f64.format.order x 4746794007244308480 == some Ordering.gt) = false := by simpa using f3
  have hfin : Hid (∀ w1, CpuAt LP ks w1 p s → Below W.heap.size W w1 → w1.cell? ⟨p, A, none⟩ = some (.int .i32 (s.r A)) ∧ w1.frozen? ⟨p, A, none⟩ = false ∧ w1.heap[w.heap.size]? = some (.cells #[.int .i64 0, .int .i64 0, .int .u32 0] 40 (0, 0)) ∧ (w1.setCell ⟨p, A, none⟩ (.int .i32 n)).heap[w.heap.size]? = some (.cells #[.int .i64 0, .int .i64 0, .int .u32 0] 40 (0, 0)) ∧
      Moved ks w ((((w1.setCell ⟨p, A, none⟩ (.int .i32 n)).setCell ⟨w.heap.size, 0, none⟩ (.int .i64 0)).setCell ⟨w.heap.size, 1, none⟩ (.int .i64 0)).setCell ⟨w.heap.size, 2, none⟩ (.int .u32 0)) ∧ ∃ ks', More ks ks' w ∧ CpuAt LP ks' ((((w1.setCell ⟨p, A, none⟩ (.int .i32 n)).setCell ⟨w.heap.size, 0, none⟩ (.int .i64 0)).setCell ⟨w.heap.size, 1, none⟩ (.int .i64 0)).setCell ⟨w.heap.size, 2, none⟩ (.int .u32 0)) p { s with r := upd s.r A n }) := fun w1 hC hb1 => by
    obtain ⟨hC2, hg2⟩ := hC.setR okP hA hn
    have he1 := (hb1.block _ hltW).trans he
    have he2 := (hg2.block _ (wblk_lt he1) (fun e => hne2 (Option.some.inj e))).trans he1
    obtain ⟨_, hd⟩ := do_end he2 ((Moved.of_below (hb.trans (hb1.mono hb.size))).grown hg2 (fun j e => by cases e; exact h.kp)) (More.refl ks w) hC2 (Nat.le_refl _) (fun hk => by have := h.kl _ hk; omega) (.int .i64 0) (.int .i64 0) (.int .u32 0)
    exact ⟨hC.reg hA, hC.fz A, he1, he2, hd⟩
  have hcv : ∀ W, (convert 103 21 (.float .f64 x)).run Tryd.prog W = .ok (.int .i32 n) W := fun W => conv_rep hx hn W
  clear h hb he hx hy hnx hltW
  go_enter Tryd.func56, Tryd.ntmps56
  go_upto_region 1 with fail
  rw [← hW]
  clear hW
  go_wp2_with (go_at_call 66; (with_reducible refine hT.out.mono ?_); rintro e w1 ⟨rfl, hC1, hb1⟩; obtain ⟨rA, fA, he1, he2, hd⟩ := hfin.out w1 hC1 hb1; have e0 := (Joins.cell_of_block he1 0).trans rfl; have e1 := (Joins.cell_of_block he1 1).trans rfl; have e2 := (Joins.cell_of_block he1 2).trans rfl; have k0 := frozen_of_row w1 w.heap.size 0 _ _ he1; have k1 := frozen_of_row w1 w.heap.size 1 _ _ he1; have k2 := frozen_of_row w1 w.heap.size 2 _ _ he1; have zz := (eff_set he2 (.int .i64 0) (.int .i64 0) (.int .u32 0)).1; have z0 := (Joins.cell_of_block zz 0).trans rfl; have z1 := (Joins.cell_of_block zz 1).trans rfl; have z2 := (Joins.cell_of_block zz 2).trans rfl; replace hd := Hid.intro hd; clear hC1 hb1 he1 he2 zz hT hfin)
  all_goals refine bodyPost_ret (by simp [results, Tryd.results56, go_sem, z0, z1, z2]; try rfl) rfl ⟨rfl, hd.out⟩
end
end Go.Proofs.YtlchefdddgbohaaDoor
