/- cpu.do: li and lis. -/
import Derived.Test.YtlchefdddgbohaaDoorCl
namespace Go.Proofs.YtlchefdddgbohaaDoor
open Go.ChangeShapes Go.WideShapes Go.ChangeAt Go.RowKit
set_option linter.unusedVariables false
set_option linter.unusedSimpArgs false
set_option maxRecDepth 100000
section
variable {ks : Nat → Prop} {w : World} {p : Nat} {s : St}
set_option maxHeartbeats 8000000 in
theorem do_li (h : CpuAt LP ks w p s) {A B : Nat} (hA : A < 8) (hB : B < 8) (n f word fr : Int) (mem : Value) (hn : -2147483648 ≤ n ∧ n ≤ 2147483647) :
    Calls Tryd.prog 33 #[.pointer (some ⟨p, 0, none⟩), instV 38 A B n f, .int .i32 word, mem, .int .i64 fr] w (Done LP ks w p { s with r := upd s.r A n } (effV 0 0 0)) := by
  have hA' : (A : Int) < 8 := by omega
  have hB' : (B : Int) < 8 := by omega
  have hA0 : (0 : Int) ≤ (A : Int) := by omega
  have hB0 : (0 : Int) ≤ (B : Int) := by omega
  go_enter Tryd.func33, Tryd.ntmps33
  go_wp2
  obtain ⟨W1, hW1⟩ : ∃ W1, W1 = w.alloc (.cells #[.int .i64 38, .int .i64 A, .int .i64 B, .int .i32 n, .int .i64 f] 34) := ⟨_, rfl⟩
  rw [← hW1]
  obtain ⟨W0, hW0⟩ : ∃ W0, W0 = W1.alloc (.cells #[.int .i64 0, .int .i64 0, .int .u32 0] 40) := ⟨_, rfl⟩
  obtain ⟨hs1, hsD, hbd, hI, heD, hC⟩ := do_pre h 38 n f (A := A) hB hW1 hW0
  rw [← hW0]
  try rw [hs1]
  clear hW1 hW0 hs1
  have i0 := hI.o
  have i1 := hI.a
  have i2 := hI.b
  have i3 := hI.n
  have rB := hC.reg hB
  have rA := hC.reg hA
  have fA := hC.fz A
  have hlt := h.lt
  have hkl := Hid.intro h.kl
  have hp := Hid.intro h.kp
  clear h
  have hne : ¬ p = w.heap.size + 1 := by omega
  have hne2 : ¬ w.heap.size + 1 = p := by omega
  go_region_held3 (fun w' => w'.cell? ⟨w.heap.size, 1, none⟩ = some (.int .i64 A) ∧ w'.cell? ⟨w.heap.size, 2, none⟩ = some (.int .i64 B) ∧ w'.cell? ⟨p, B, none⟩ = some (.int .i32 (s.r B))) (exact ⟨i1, i2, rB⟩) (fail)
  generalize W0.drew = W at *
  replace hbd := Hid.intro hbd
  have hCH := Hid.intro hC
  have heH := Hid.intro heD
  have hnq : Hid (¬ ks (w.heap.size + 1)) := fun hk => by have := hkl.out _ hk; omega
  have e0 := (Joins.cell_of_block heD 0).trans rfl
  have e1 := (Joins.cell_of_block heD 1).trans rfl
  have e2 := (Joins.cell_of_block heD 2).trans rfl
  have k0 := frozen_of_row W (w.heap.size + 1) 0 _ _ heD
  have k1 := frozen_of_row W (w.heap.size + 1) 1 _ _ heD
  have k2 := frozen_of_row W (w.heap.size + 1) 2 _ _ heD
  obtain ⟨hC2, hg2⟩ := hC.setR okP hA hn
  have he2 := (hg2.block _ (by omega) (fun e => hne2 (Option.some.inj e))).trans heD
  obtain ⟨⟨z0, z1, z2⟩, hd⟩ := do_end he2 ((Moved.of_below hbd.out).grown hg2 (fun j e => by cases e; exact hp.out)) (More.refl ks w) hC2 (by omega) hnq.out (.int .i64 0) (.int .i64 0) (.int .u32 0)
  clear hC heD hC2 hg2 he2 hI
  go_wp2
  refine bodyPost_ret (by simp [results, Tryd.results33, go_sem, z0, z1, z2]; try rfl) rfl ⟨rfl, hd⟩
set_option maxHeartbeats 8000000 in
theorem do_lis (h : CpuAt LP ks w p s) {A B : Nat} (hA : A < 8) (hB : B < 8) (n f word fr : Int) (mem : Value) (hn : -2147483648 ≤ n ∧ n ≤ 2147483647) :
    Calls Tryd.prog 33 #[.pointer (some ⟨p, 0, none⟩), instV 36 A B n f, .int .i32 word, mem, .int .i64 fr] w (Done LP ks w p { s with r := upd s.r A n } (effV 0 0 0)) := by
  have hA' : (A : Int) < 8 := by omega
  have hB' : (B : Int) < 8 := by omega
  have hA0 : (0 : Int) ≤ (A : Int) := by omega
  have hB0 : (0 : Int) ≤ (B : Int) := by omega
  go_enter Tryd.func33, Tryd.ntmps33
  go_wp2
  obtain ⟨W1, hW1⟩ : ∃ W1, W1 = w.alloc (.cells #[.int .i64 36, .int .i64 A, .int .i64 B, .int .i32 n, .int .i64 f] 34) := ⟨_, rfl⟩
  rw [← hW1]
  obtain ⟨W0, hW0⟩ : ∃ W0, W0 = W1.alloc (.cells #[.int .i64 0, .int .i64 0, .int .u32 0] 40) := ⟨_, rfl⟩
  obtain ⟨hs1, hsD, hbd, hI, heD, hC⟩ := do_pre h 36 n f (A := A) hB hW1 hW0
  rw [← hW0]
  try rw [hs1]
  clear hW1 hW0 hs1
  have i0 := hI.o
  have i1 := hI.a
  have i2 := hI.b
  have i3 := hI.n
  have rB := hC.reg hB
  have rA := hC.reg hA
  have fA := hC.fz A
  have hlt := h.lt
  have hkl := Hid.intro h.kl
  have hp := Hid.intro h.kp
  clear h
  have hne : ¬ p = w.heap.size + 1 := by omega
  have hne2 : ¬ w.heap.size + 1 = p := by omega
  go_region_held3 (fun w' => w'.cell? ⟨w.heap.size, 1, none⟩ = some (.int .i64 A) ∧ w'.cell? ⟨w.heap.size, 2, none⟩ = some (.int .i64 B) ∧ w'.cell? ⟨p, B, none⟩ = some (.int .i32 (s.r B))) (exact ⟨i1, i2, rB⟩) (fail)
  generalize W0.drew = W at *
  replace hbd := Hid.intro hbd
  have hCH := Hid.intro hC
  have heH := Hid.intro heD
  have hnq : Hid (¬ ks (w.heap.size + 1)) := fun hk => by have := hkl.out _ hk; omega
  have e0 := (Joins.cell_of_block heD 0).trans rfl
  have e1 := (Joins.cell_of_block heD 1).trans rfl
  have e2 := (Joins.cell_of_block heD 2).trans rfl
  have k0 := frozen_of_row W (w.heap.size + 1) 0 _ _ heD
  have k1 := frozen_of_row W (w.heap.size + 1) 1 _ _ heD
  have k2 := frozen_of_row W (w.heap.size + 1) 2 _ _ heD
  obtain ⟨hC2, hg2⟩ := hC.setR okP hA hn
  have he2 := (hg2.block _ (by omega) (fun e => hne2 (Option.some.inj e))).trans heD
  obtain ⟨⟨z0, z1, z2⟩, hd⟩ := do_end he2 ((Moved.of_below hbd.out).grown hg2 (fun j e => by cases e; exact hp.out)) (More.refl ks w) hC2 (by omega) hnq.out (.int .i64 0) (.int .i64 0) (.int .u32 0)
  clear hC heD hC2 hg2 he2 hI
  go_wp2
  refine bodyPost_ret (by simp [results, Tryd.results33, go_sem, z0, z1, z2]; try rfl) rfl ⟨rfl, hd⟩
end
end Go.Proofs.YtlchefdddgbohaaDoor
