/- cpu.do: print and push. -/
import Derived.Test.YtlchefdddgbohaaDoorCl
import Derived.Test.YtlchefdddgbohaaDoorPu
import Derived.Test.YtlchefdddgbohaaDoorDr
namespace Go.Proofs.YtlchefdddgbohaaDoor
open Go.ChangeShapes Go.WideShapes Go.ChangeAt Go.RowKit
set_option linter.unusedVariables false
set_option linter.unusedSimpArgs false
set_option maxRecDepth 100000
section
variable {ks : Nat → Prop} {w : World} {p : Nat} {s : St}
set_option maxHeartbeats 8000000 in
theorem do_print_no (h : CpuAt LP ks w p s) {A B : Nat} (hA : A < 8) (hB : B < 8) (n f word fr : Int) (mem : Value) (hl : s.out.length = 4096) :
    Calls Tryd.prog 33 #[.pointer (some ⟨p, 0, none⟩), instV 4 A B n f, .int .i32 word, mem, .int .i64 fr] w (Done LP ks w p s (effV 6 7 0)) := by
  have hA' : (A : Int) < 8 := by omega
  have hB' : (B : Int) < 8 := by omega
  have hA0 : (0 : Int) ≤ (A : Int) := by omega
  have hB0 : (0 : Int) ≤ (B : Int) := by omega
  go_enter Tryd.func33, Tryd.ntmps33
  go_wp2
  obtain ⟨W1, hW1⟩ : ∃ W1, W1 = w.alloc (.cells #[.int .i64 4, .int .i64 A, .int .i64 B, .int .i32 n, .int .i64 f] 34) := ⟨_, rfl⟩
  rw [← hW1]
  obtain ⟨W0, hW0⟩ : ∃ W0, W0 = W1.alloc (.cells #[.int .i64 0, .int .i64 0, .int .u32 0] 40) := ⟨_, rfl⟩
  obtain ⟨hs1, hsD, hbd, hI, heD, hC⟩ := do_pre h 4 n f (A := A) hB hW1 hW0
  rw [← hW0]
  try rw [hs1]
  clear hW1 hW0 hs1
  have i0 := hI.o
  have i1 := hI.a
  have i2 := hI.b
  have i3 := hI.n
  have rB := hC.reg hB
  have rA := hC.reg hA
  have fA := hC.fz A
  have hlt := h.lt
  have hkl := Hid.intro h.kl
  have hp := Hid.intro h.kp
  clear h
  have hne : ¬ p = w.heap.size + 1 := by omega
  have hne2 : ¬ w.heap.size + 1 = p := by omega
  go_region_held3 (fun w' => w'.cell? ⟨w.heap.size, 1, none⟩ = some (.int .i64 A) ∧ w'.cell? ⟨w.heap.size, 2, none⟩ = some (.int .i64 B) ∧ w'.cell? ⟨p, B, none⟩ = some (.int .i32 (s.r B))) (exact ⟨i1, i2, rB⟩) (fail)
  generalize W0.drew = W at *
  replace hbd := Hid.intro hbd
  have hCH := Hid.intro hC
  have heH := Hid.intro heD
  have hnq : Hid (¬ ks (w.heap.size + 1)) := fun hk => by have := hkl.out _ hk; omega
  have hcl := Hid.intro (print_no hCH.out (s.r A) hl)
  clear hI hC heD i1 i2 i3 hl
  go_wp2_with (go_at_call 45; (with_reducible refine hcl.out.mono ?_); rintro e w2 ⟨rfl, hd2⟩; obtain ⟨he2, ⟨z0, z1, z2⟩, hd⟩ := do_ret hbd.out (by omega) (by omega) hkl.out heH.out hd2 (.int .i64 6) (.int .i64 7) (.int .u32 0); have e0 := (Joins.cell_of_block he2 0).trans rfl; have e1 := (Joins.cell_of_block he2 1).trans rfl; have e2 := (Joins.cell_of_block he2 2).trans rfl; have k0 := frozen_of_row w2 (w.heap.size + 1) 0 _ _ he2; have k1 := frozen_of_row w2 (w.heap.size + 1) 1 _ _ he2; have k2 := frozen_of_row w2 (w.heap.size + 1) 2 _ _ he2; clear hd2 he2)
  refine bodyPost_ret (by simp [results, Tryd.results33, go_sem, z0, z1, z2]; try rfl) rfl ⟨rfl, hd⟩
set_option maxHeartbeats 8000000 in
theorem do_print_yes (h : CpuAt LP ks w p s) {A B : Nat} (hA : A < 8) (hB : B < 8) (n f word fr : Int) (mem : Value) (hl : s.out.length < 4096) :
    Calls Tryd.prog 33 #[.pointer (some ⟨p, 0, none⟩), instV 4 A B n f, .int .i32 word, mem, .int .i64 fr] w (Done LP ks w p { s with out := s.out ++ [s.r A] } (effV 0 0 0)) := by
  have hA' : (A : Int) < 8 := by omega
  have hB' : (B : Int) < 8 := by omega
  have hA0 : (0 : Int) ≤ (A : Int) := by omega
  have hB0 : (0 : Int) ≤ (B : Int) := by omega
  go_enter Tryd.func33, Tryd.ntmps33
  go_wp2
  obtain ⟨W1, hW1⟩ : ∃ W1, W1 = w.alloc (.cells #[.int .i64 4, .int .i64 A, .int .i64 B, .int .i32 n, .int .i64 f] 34) := ⟨_, rfl⟩
  rw [← hW1]
  obtain ⟨W0, hW0⟩ : ∃ W0, W0 = W1.alloc (.cells #[.int .i64 0, .int .i64 0, .int .u32 0] 40) := ⟨_, rfl⟩
  obtain ⟨hs1, hsD, hbd, hI, heD, hC⟩ := do_pre h 4 n f (A := A) hB hW1 hW0
  rw [← hW0]
  try rw [hs1]
  clear hW1 hW0 hs1
  have i0 := hI.o
  have i1 := hI.a
  have i2 := hI.b
  have i3 := hI.n
  have rB := hC.reg hB
  have rA := hC.reg hA
  have fA := hC.fz A
  have hlt := h.lt
  have hkl := Hid.intro h.kl
  have hp := Hid.intro h.kp
  clear h
  have hne : ¬ p = w.heap.size + 1 := by omega
  have hne2 : ¬ w.heap.size + 1 = p := by omega
  go_region_held3 (fun w' => w'.cell? ⟨w.heap.size, 1, none⟩ = some (.int .i64 A) ∧ w'.cell? ⟨w.heap.size, 2, none⟩ = some (.int .i64 B) ∧ w'.cell? ⟨p, B, none⟩ = some (.int .i32 (s.r B))) (exact ⟨i1, i2, rB⟩) (fail)
  generalize W0.drew = W at *
  replace hbd := Hid.intro hbd
  have hCH := Hid.intro hC
  have heH := Hid.intro heD
  have hnq : Hid (¬ ks (w.heap.size + 1)) := fun hk => by have := hkl.out _ hk; omega
  have hcl := Hid.intro (print_yes hCH.out (hCH.out.rb A) hl)
  clear hI hC heD i1 i2 i3 hl
  go_wp2_with (go_at_call 45; (with_reducible refine hcl.out.mono ?_); rintro e w2 ⟨rfl, hd2⟩; obtain ⟨he2, ⟨z0, z1, z2⟩, hd⟩ := do_ret hbd.out (by omega) (by omega) hkl.out heH.out hd2 (.int .i64 0) (.int .i64 0) (.int .u32 0); have e0 := (Joins.cell_of_block he2 0).trans rfl; have e1 := (Joins.cell_of_block he2 1).trans rfl; have e2 := (Joins.cell_of_block he2 2).trans rfl; have k0 := frozen_of_row w2 (w.heap.size + 1) 0 _ _ he2; have k1 := frozen_of_row w2 (w.heap.size + 1) 1 _ _ he2; have k2 := frozen_of_row w2 (w.heap.size + 1) 2 _ _ he2; clear hd2 he2)
  refine bodyPost_ret (by simp [results, Tryd.results33, go_sem, z0, z1, z2]; try rfl) rfl ⟨rfl, hd⟩
set_option maxHeartbeats 8000000 in
theorem do_push_no (h : CpuAt LP ks w p s) {A B : Nat} (hA : A < 8) (hB : B < 8) (n f word fr : Int) (mem : Value) (hl : s.stk.length = 256) :
    Calls Tryd.prog 33 #[.pointer (some ⟨p, 0, none⟩), instV 6 A B n f, .int .i32 word, mem, .int .i64 fr] w (Done LP ks w p s (effV 6 4 0)) := by
  have hA' : (A : Int) < 8 := by omega
  have hB' : (B : Int) < 8 := by omega
  have hA0 : (0 : Int) ≤ (A : Int) := by omega
  have hB0 : (0 : Int) ≤ (B : Int) := by omega
  go_enter Tryd.func33, Tryd.ntmps33
  go_wp2
  obtain ⟨W1, hW1⟩ : ∃ W1, W1 = w.alloc (.cells #[.int .i64 6, .int .i64 A, .int .i64 B, .int .i32 n, .int .i64 f] 34) := ⟨_, rfl⟩
  rw [← hW1]
  obtain ⟨W0, hW0⟩ : ∃ W0, W0 = W1.alloc (.cells #[.int .i64 0, .int .i64 0, .int .u32 0] 40) := ⟨_, rfl⟩
  obtain ⟨hs1, hsD, hbd, hI, heD, hC⟩ := do_pre h 6 n f (A := A) hB hW1 hW0
  rw [← hW0]
  try rw [hs1]
  clear hW1 hW0 hs1
  have i0 := hI.o
  have i1 := hI.a
  have i2 := hI.b
  have i3 := hI.n
  have rB := hC.reg hB
  have rA := hC.reg hA
  have fA := hC.fz A
  have hlt := h.lt
  have hkl := Hid.intro h.kl
  have hp := Hid.intro h.kp
  clear h
  have hne : ¬ p = w.heap.size + 1 := by omega
  have hne2 : ¬ w.heap.size + 1 = p := by omega
  go_region_held3 (fun w' => w'.cell? ⟨w.heap.size, 1, none⟩ = some (.int .i64 A) ∧ w'.cell? ⟨w.heap.size, 2, none⟩ = some (.int .i64 B) ∧ w'.cell? ⟨p, B, none⟩ = some (.int .i32 (s.r B))) (exact ⟨i1, i2, rB⟩) (fail)
  generalize W0.drew = W at *
  replace hbd := Hid.intro hbd
  have hCH := Hid.intro hC
  have heH := Hid.intro heD
  have hnq : Hid (¬ ks (w.heap.size + 1)) := fun hk => by have := hkl.out _ hk; omega
  have hcl := Hid.intro (push_no hCH.out (s.r A) hl)
  clear hI hC heD i1 i2 i3 hl
  go_wp2_with (go_at_call 47; (with_reducible refine hcl.out.mono ?_); rintro e w2 ⟨rfl, hd2⟩; obtain ⟨he2, ⟨z0, z1, z2⟩, hd⟩ := do_ret hbd.out (by omega) (by omega) hkl.out heH.out hd2 (.int .i64 6) (.int .i64 4) (.int .u32 0); have e0 := (Joins.cell_of_block he2 0).trans rfl; have e1 := (Joins.cell_of_block he2 1).trans rfl; have e2 := (Joins.cell_of_block he2 2).trans rfl; have k0 := frozen_of_row w2 (w.heap.size + 1) 0 _ _ he2; have k1 := frozen_of_row w2 (w.heap.size + 1) 1 _ _ he2; have k2 := frozen_of_row w2 (w.heap.size + 1) 2 _ _ he2; clear hd2 he2)
  refine bodyPost_ret (by simp [results, Tryd.results33, go_sem, z0, z1, z2]; try rfl) rfl ⟨rfl, hd⟩
set_option maxHeartbeats 8000000 in
theorem do_push_yes (h : CpuAt LP ks w p s) {A B : Nat} (hA : A < 8) (hB : B < 8) (n f word fr : Int) (mem : Value) (hl : s.stk.length < 256) :
    Calls Tryd.prog 33 #[.pointer (some ⟨p, 0, none⟩), instV 6 A B n f, .int .i32 word, mem, .int .i64 fr] w (Done LP ks w p { s with stk := s.stk ++ [s.r A] } (effV 0 0 0)) := by
  have hA' : (A : Int) < 8 := by omega
  have hB' : (B : Int) < 8 := by omega
  have hA0 : (0 : Int) ≤ (A : Int) := by omega
  have hB0 : (0 : Int) ≤ (B : Int) := by omega
  go_enter Tryd.func33, Tryd.ntmps33
  go_wp2
  obtain ⟨W1, hW1⟩ : ∃ W1, W1 = w.alloc (.cells #[.int .i64 6, .int .i64 A, .int .i64 B, .int .i32 n, .int .i64 f] 34) := ⟨_, rfl⟩
  rw [← hW1]
  obtain ⟨W0, hW0⟩ : ∃ W0, W0 = W1.alloc (.cells #[.int .i64 0, .int .i64 0, .int .u32 0] 40) := ⟨_, rfl⟩
  obtain ⟨hs1, hsD, hbd, hI, heD, hC⟩ := do_pre h 6 n f (A := A) hB hW1 hW0
  rw [← hW0]
  try rw [hs1]
  clear hW1 hW0 hs1
  have i0 := hI.o
  have i1 := hI.a
  have i2 := hI.b
  have i3 := hI.n
  have rB := hC.reg hB
  have rA := hC.reg hA
  have fA := hC.fz A
  have hlt := h.lt
  have hkl := Hid.intro h.kl
  have hp := Hid.intro h.kp
  clear h
  have hne : ¬ p = w.heap.size + 1 := by omega
  have hne2 : ¬ w.heap.size + 1 = p := by omega
  go_region_held3 (fun w' => w'.cell? ⟨w.heap.size, 1, none⟩ = some (.int .i64 A) ∧ w'.cell? ⟨w.heap.size, 2, none⟩ = some (.int .i64 B) ∧ w'.cell? ⟨p, B, none⟩ = some (.int .i32 (s.r B))) (exact ⟨i1, i2, rB⟩) (fail)
  generalize W0.drew = W at *
  replace hbd := Hid.intro hbd
  have hCH := Hid.intro hC
  have heH := Hid.intro heD
  have hnq : Hid (¬ ks (w.heap.size + 1)) := fun hk => by have := hkl.out _ hk; omega
  have hcl := Hid.intro (push_yes hCH.out (hCH.out.rb A) hl)
  clear hI hC heD i1 i2 i3 hl
  go_wp2_with (go_at_call 47; (with_reducible refine hcl.out.mono ?_); rintro e w2 ⟨rfl, hd2⟩; obtain ⟨he2, ⟨z0, z1, z2⟩, hd⟩ := do_ret hbd.out (by omega) (by omega) hkl.out heH.out hd2 (.int .i64 0) (.int .i64 0) (.int .u32 0); have e0 := (Joins.cell_of_block he2 0).trans rfl; have e1 := (Joins.cell_of_block he2 1).trans rfl; have e2 := (Joins.cell_of_block he2 2).trans rfl; have k0 := frozen_of_row w2 (w.heap.size + 1) 0 _ _ he2; have k1 := frozen_of_row w2 (w.heap.size + 1) 1 _ _ he2; have k2 := frozen_of_row w2 (w.heap.size + 1) 2 _ _ he2; clear hd2 he2)
  refine bodyPost_ret (by simp [results, Tryd.results33, go_sem, z0, z1, z2]; try rfl) rfl ⟨rfl, hd⟩
end
end Go.Proofs.YtlchefdddgbohaaDoor
