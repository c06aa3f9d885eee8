/- cpu.do: z: zre, zim. -/
import Derived.Test.YtlchefdddgbohaaDoorCl
import Derived.Test.YtlchefdddgbohaaDoorRgL
import Derived.Test.YtlchefdddgbohaaDoorCz
import Derived.Test.YtlchefdddgbohaaDoorWh
import Derived.Test.YtlchefdddgbohaaDoorZx
namespace Go.Proofs.YtlchefdddgbohaaDoor
open Go.ChangeShapes Go.WideShapes Go.ChangeAt Go.RowKit
set_option linter.unusedVariables false
set_option linter.unusedSimpArgs false
set_option maxRecDepth 100000
section
variable {ks : Nat → Prop} {w : World} {p : Nat} {s : St}
set_option maxHeartbeats 8000000 in
theorem do_zre (h : CpuAt LP ks w p s) {A B : Nat} (hA : A < 8) (hB : B < 8) (n f word fr : Int) (mem : Value) (hB4 : B < 4) {N : Int} (hx : PlainF.Rep (s.z B).1 N) (hN : -2147483648 ≤ N ∧ N ≤ 2147483647) :
    Calls Tryd.prog 33 #[.pointer (some ⟨p, 0, none⟩), instV 33 A B n f, .int .i32 word, mem, .int .i64 fr] w (Done LP ks w p { s with r := upd s.r A N } (effV 0 0 0)) := by
  have hB4' : (B : Int) < 4 := by omega
  have hA' : (A : Int) < 8 := by omega
  have hB' : (B : Int) < 8 := by omega
  have hA0 : (0 : Int) ≤ (A : Int) := by omega
  have hB0 : (0 : Int) ≤ (B : Int) := by omega
  go_enter Tryd.func33, Tryd.ntmps33
  go_wp2
  obtain ⟨W1, hW1⟩ : ∃ W1, W1 = w.alloc (.cells #[.int .i64 33, .int .i64 A, .int .i64 B, .int .i32 n, .int .i64 f] 34) := ⟨_, rfl⟩
  rw [← hW1]
  obtain ⟨W0, hW0⟩ : ∃ W0, W0 = W1.alloc (.cells #[.int .i64 0, .int .i64 0, .int .u32 0] 40) := ⟨_, rfl⟩
  obtain ⟨hs1, hsD, hbd, hI, heD, hC⟩ := do_pre h 33 n f (A := A) hB hW1 hW0
  rw [← hW0]
  try rw [hs1]
  clear hW1 hW0 hs1
  have i0 := hI.o
  have i1 := hI.a
  have i2 := hI.b
  have i3 := hI.n
  have rB := hC.reg hB
  have rA := hC.reg hA
  have fA := hC.fz A
  have hlt := h.lt
  have hkl := Hid.intro h.kl
  have hp := Hid.intro h.kp
  clear h
  have hne : ¬ p = w.heap.size + 1 := by omega
  have hne2 : ¬ w.heap.size + 1 = p := by omega
  go_region_held3 (fun w' => w'.cell? ⟨w.heap.size, 1, none⟩ = some (.int .i64 A) ∧ w'.cell? ⟨w.heap.size, 2, none⟩ = some (.int .i64 B) ∧ w'.cell? ⟨p, B, none⟩ = some (.int .i32 (s.r B))) (exact ⟨i1, i2, rB⟩) (fail)
  generalize W0.drew = W at *
  replace hbd := Hid.intro hbd
  have hCH := Hid.intro hC
  have heH := Hid.intro heD
  have hnq : Hid (¬ ks (w.heap.size + 1)) := fun hk => by have := hkl.out _ hk; omega
  have zB := hC.zr hB4
  have hxH := Hid.intro hx
  clear hI hC heD hx
  go_wp2
  have hCD := Hid.intro hCH.out.drew
  have heDD := Hid.intro (show W.drew.heap[w.heap.size + 1]? = _ from heH.out)
  have hbdD := Hid.intro hbd.out.drew
  have hsDD : W.drew.heap.size = w.heap.size + 2 := hsD
  refine wp_region_last (by kernel_rfl) 10 _ rfl rfl rfl (by kernel_rfl) (fun W' => W'.cell? ⟨w.heap.size, 2, none⟩ = some (.int .i64 B) ∧ W'.cell? ⟨p, 8 + B, none⟩ = some (.complex .f64 (s.z B).1 (s.z B).2)) ⟨i2, zB⟩ (fun hHeld => ?_)
  simp only [List.setIfInBounds_toArray, List.set_cons_succ, List.set_cons_zero, noOp]
  clear i0 i1 i2 i3 rA rB fA hCH heH hbd hsD zB
  generalize W.drew = W2 at *
  refine wpAnyH_take (i := 0) (v := ?vm140) (by simp only [List.getElem?_toArray, List.getElem?_cons_succ, List.getElem?_cons_zero]; rfl) (by kernel_rfl) (by kernel_rfl) (by kernel_rfl) (by exact fun _ _ _ h => h) (Or.inl ⟨by rfl, ?ym140⟩) (by assumption) ?rm140
  case ym140 => (intro w hSw; (try dsimp only at hSw); go_simp; (try with_reducible rfl))
  try simp only [Act.put, List.setIfInBounds_toArray, List.set_cons_zero, List.set_cons_succ]
  refine wpAnyH_take (i := 1) (v := ?vm141) (by simp only [List.getElem?_toArray, List.getElem?_cons_succ, List.getElem?_cons_zero]; rfl) (by kernel_rfl) (by kernel_rfl) (by kernel_rfl) (by exact fun _ _ _ h => h) (Or.inl ⟨by rfl, ?ym141⟩) (by assumption) ?rm141
  case ym141 => (intro w hSw; (try dsimp only at hSw); go_simp; (try with_reducible rfl))
  try simp only [Act.put, List.setIfInBounds_toArray, List.set_cons_zero, List.set_cons_succ]
  refine wpAnyH_take (i := 2) (v := ?vm142) (by simp only [List.getElem?_toArray, List.getElem?_cons_succ, List.getElem?_cons_zero]; rfl) (by kernel_rfl) (by kernel_rfl) (by kernel_rfl) (by exact fun _ _ _ h => h) (Or.inl ⟨by rfl, ?ym142⟩) (by assumption) ?rm142
  case ym142 => (intro w hSw; (try dsimp only at hSw); go_simp; (try with_reducible rfl))
  try simp only [Act.put, List.setIfInBounds_toArray, List.set_cons_zero, List.set_cons_succ]
  refine wpAnyH_take (i := 3) (v := ?vm143) (by simp only [List.getElem?_toArray, List.getElem?_cons_succ, List.getElem?_cons_zero]; rfl) (by kernel_rfl) (by kernel_rfl) (by kernel_rfl) (by exact fun _ _ _ h => h) (Or.inl ⟨by rfl, ?ym143⟩) (by assumption) ?rm143
  case ym143 => (intro w hSw; (try dsimp only at hSw); go_simp; (try with_reducible rfl))
  try simp only [Act.put, List.setIfInBounds_toArray, List.set_cons_zero, List.set_cons_succ]
  refine wpAnyH_take (i := 4) (v := ?vm144) (by simp only [List.getElem?_toArray, List.getElem?_cons_succ, List.getElem?_cons_zero]; rfl) (by kernel_rfl) (by kernel_rfl) (by kernel_rfl) (by exact fun _ _ _ h => h) (Or.inl ⟨by rfl, ?ym144⟩) (by assumption) ?rm144
  case ym144 => (intro w hSw; (try dsimp only at hSw); go_simp; (try with_reducible rfl))
  try simp only [Act.put, List.setIfInBounds_toArray, List.set_cons_zero, List.set_cons_succ]
  refine wpAnyH_take (i := 5) (v := ?vm145) (by simp only [List.getElem?_toArray, List.getElem?_cons_succ, List.getElem?_cons_zero]; rfl) (by kernel_rfl) (by kernel_rfl) (by kernel_rfl) (by exact fun _ _ _ h => h) (Or.inl ⟨by rfl, ?ym145⟩) (by assumption) ?rm145
  case ym145 => (intro w hSw; (try dsimp only at hSw); go_simp; (try with_reducible rfl))
  try simp only [Act.put, List.setIfInBounds_toArray, List.set_cons_zero, List.set_cons_succ]
  refine wpAnyH_take (i := 6) (v := ?vm146) (by simp only [List.getElem?_toArray, List.getElem?_cons_succ, List.getElem?_cons_zero]; rfl) (by kernel_rfl) (by kernel_rfl) (by kernel_rfl) (by exact fun _ _ _ h => h) (Or.inl ⟨by rfl, ?ym146⟩) (by assumption) ?rm146
  case ym146 => (intro w hSw; (try dsimp only at hSw); go_simp; (try with_reducible rfl))
  try simp only [Act.put, List.setIfInBounds_toArray, List.set_cons_zero, List.set_cons_succ]
  refine wpAnyH_take (i := 7) (v := ?vm147) (by simp only [List.getElem?_toArray, List.getElem?_cons_succ, List.getElem?_cons_zero]; rfl) (by kernel_rfl) (by kernel_rfl) (by kernel_rfl) (by exact fun _ _ _ h => h) (Or.inl ⟨by rfl, ?ym147⟩) (by assumption) ?rm147
  case ym147 => (intro w hSw; (try dsimp only at hSw); go_simp; (try with_reducible rfl))
  try simp only [Act.put, List.setIfInBounds_toArray, List.set_cons_zero, List.set_cons_succ]
  refine wpAnyH_take (i := 8) (v := ?vm148) (by simp only [List.getElem?_toArray, List.getElem?_cons_succ, List.getElem?_cons_zero]; rfl) (by kernel_rfl) (by kernel_rfl) (by kernel_rfl) (by exact fun _ _ _ h => h) (Or.inl ⟨by rfl, ?ym148⟩) (by assumption) ?rm148
  case ym148 => (intro w hSw; (try dsimp only at hSw); go_simp; (try with_reducible rfl))
  try simp only [Act.put, List.setIfInBounds_toArray, List.set_cons_zero, List.set_cons_succ]
  refine wpAnyH_ready (rs := [9]) (by kernel_rfl) (by simp) (AllReadyH.cons (by simp only [List.getElem?_toArray, List.getElem?_cons_succ, List.getElem?_cons_zero]; rfl) (fun K hK => ?_) AllReadyH.nil)
  go_simp
  (go_at_call 56; (with_reducible refine (whole_yes hCD.out hA hxH.out hN).mono ?_); rintro e w2 ⟨rfl, hd2⟩; try go_wp2_with fail)
  refine hK.out _ _ (whole_S hCD.out hkl.out hd2 hHeld hB4 (by omega)) (fun hHeld2 => ?_)
  clear hK K
  try simp only [Act.put, List.setIfInBounds_toArray, List.set_cons_zero, List.set_cons_succ]
  refine wpAnyH_take (i := 10) (v := ?vm149) (by simp only [List.getElem?_toArray, List.getElem?_cons_succ, List.getElem?_cons_zero]; rfl) (by kernel_rfl) (by kernel_rfl) (by kernel_rfl) (by exact fun _ _ _ h => h) (Or.inl ⟨by rfl, ?ym149⟩) (by assumption) ?rm149
  case ym149 => (intro w hSw; (try dsimp only at hSw); go_simp; (try with_reducible rfl))
  try simp only [Act.put, List.setIfInBounds_toArray, List.set_cons_zero, List.set_cons_succ]
  obtain ⟨he2, ⟨z0, z1, z2⟩, hd⟩ := do_ret hbdD.out (by omega) (by omega) hkl.out heDD.out hd2 (.int .i64 0) (.int .i64 0) (.int .u32 0)
  have e0 := (Joins.cell_of_block he2 0).trans rfl; have e1 := (Joins.cell_of_block he2 1).trans rfl; have e2 := (Joins.cell_of_block he2 2).trans rfl; have k0 := frozen_of_row w2 (w.heap.size + 1) 0 _ _ he2; have k1 := frozen_of_row w2 (w.heap.size + 1) 1 _ _ he2; have k2 := frozen_of_row w2 (w.heap.size + 1) 2 _ _ he2
  clear hd2 he2 hHeld hHeld2
  refine wpAnyH_done (by kernel_rfl) ?_ _
  show Oper.wp _ _ _ _ _ _
  go_simp
  all_goals (go_wp2_with fail)
  refine bodyPost_ret (by simp [results, Tryd.results33, go_sem, z0, z1, z2]; try rfl) rfl ⟨rfl, hd⟩
set_option maxHeartbeats 8000000 in
theorem do_zim (h : CpuAt LP ks w p s) {A B : Nat} (hA : A < 8) (hB : B < 8) (n f word fr : Int) (mem : Value) (hB4 : B < 4) {N : Int} (hx : PlainF.Rep (s.z B).2 N) (hN : -2147483648 ≤ N ∧ N ≤ 2147483647) :
    Calls Tryd.prog 33 #[.pointer (some ⟨p, 0, none⟩), instV 34 A B n f, .int .i32 word, mem, .int .i64 fr] w (Done LP ks w p { s with r := upd s.r A N } (effV 0 0 0)) := by
  have hB4' : (B : Int) < 4 := by omega
  have hA' : (A : Int) < 8 := by omega
  have hB' : (B : Int) < 8 := by omega
  have hA0 : (0 : Int) ≤ (A : Int) := by omega
  have hB0 : (0 : Int) ≤ (B : Int) := by omega
  go_enter Tryd.func33, Tryd.ntmps33
  go_wp2
  obtain ⟨W1, hW1⟩ : ∃ W1, W1 = w.alloc (.cells #[.int .i64 34, .int .i64 A, .int .i64 B, .int .i32 n, .int .i64 f] 34) := ⟨_, rfl⟩
  rw [← hW1]
  obtain ⟨W0, hW0⟩ : ∃ W0, W0 = W1.alloc (.cells #[.int .i64 0, .int .i64 0, .int .u32 0] 40) := ⟨_, rfl⟩
  obtain ⟨hs1, hsD, hbd, hI, heD, hC⟩ := do_pre h 34 n f (A := A) hB hW1 hW0
  rw [← hW0]
  try rw [hs1]
  clear hW1 hW0 hs1
  have i0 := hI.o
  have i1 := hI.a
  have i2 := hI.b
  have i3 := hI.n
  have rB := hC.reg hB
  have rA := hC.reg hA
  have fA := hC.fz A
  have hlt := h.lt
  have hkl := Hid.intro h.kl
  have hp := Hid.intro h.kp
  clear h
  have hne : ¬ p = w.heap.size + 1 := by omega
  have hne2 : ¬ w.heap.size + 1 = p := by omega
  go_region_held3 (fun w' => w'.cell? ⟨w.heap.size, 1, none⟩ = some (.int .i64 A) ∧ w'.cell? ⟨w.heap.size, 2, none⟩ = some (.int .i64 B) ∧ w'.cell? ⟨p, B, none⟩ = some (.int .i32 (s.r B))) (exact ⟨i1, i2, rB⟩) (fail)
  generalize W0.drew = W at *
  replace hbd := Hid.intro hbd
  have hCH := Hid.intro hC
  have heH := Hid.intro heD
  have hnq : Hid (¬ ks (w.heap.size + 1)) := fun hk => by have := hkl.out _ hk; omega
  have zB := hC.zr hB4
  have hxH := Hid.intro hx
  clear hI hC heD hx
  go_wp2
  have hCD := Hid.intro hCH.out.drew
  have heDD := Hid.intro (show W.drew.heap[w.heap.size + 1]? = _ from heH.out)
  have hbdD := Hid.intro hbd.out.drew
  have hsDD : W.drew.heap.size = w.heap.size + 2 := hsD
  refine wp_region_last (by kernel_rfl) 10 _ rfl rfl rfl (by kernel_rfl) (fun W' => W'.cell? ⟨w.heap.size, 2, none⟩ = some (.int .i64 B) ∧ W'.cell? ⟨p, 8 + B, none⟩ = some (.complex .f64 (s.z B).1 (s.z B).2)) ⟨i2, zB⟩ (fun hHeld => ?_)
  simp only [List.setIfInBounds_toArray, List.set_cons_succ, List.set_cons_zero, noOp]
  clear i0 i1 i2 i3 rA rB fA hCH heH hbd hsD zB
  generalize W.drew = W2 at *
  refine wpAnyH_take (i := 0) (v := ?vm150) (by simp only [List.getElem?_toArray, List.getElem?_cons_succ, List.getElem?_cons_zero]; rfl) (by kernel_rfl) (by kernel_rfl) (by kernel_rfl) (by exact fun _ _ _ h => h) (Or.inl ⟨by rfl, ?ym150⟩) (by assumption) ?rm150
  case ym150 => (intro w hSw; (try dsimp only at hSw); go_simp; (try with_reducible rfl))
  try simp only [Act.put, List.setIfInBounds_toArray, List.set_cons_zero, List.set_cons_succ]
  refine wpAnyH_take (i := 1) (v := ?vm151) (by simp only [List.getElem?_toArray, List.getElem?_cons_succ, List.getElem?_cons_zero]; rfl) (by kernel_rfl) (by kernel_rfl) (by kernel_rfl) (by exact fun _ _ _ h => h) (Or.inl ⟨by rfl, ?ym151⟩) (by assumption) ?rm151
  case ym151 => (intro w hSw; (try dsimp only at hSw); go_simp; (try with_reducible rfl))
  try simp only [Act.put, List.setIfInBounds_toArray, List.set_cons_zero, List.set_cons_succ]
  refine wpAnyH_take (i := 2) (v := ?vm152) (by simp only [List.getElem?_toArray, List.getElem?_cons_succ, List.getElem?_cons_zero]; rfl) (by kernel_rfl) (by kernel_rfl) (by kernel_rfl) (by exact fun _ _ _ h => h) (Or.inl ⟨by rfl, ?ym152⟩) (by assumption) ?rm152
  case ym152 => (intro w hSw; (try dsimp only at hSw); go_simp; (try with_reducible rfl))
  try simp only [Act.put, List.setIfInBounds_toArray, List.set_cons_zero, List.set_cons_succ]
  refine wpAnyH_take (i := 3) (v := ?vm153) (by simp only [List.getElem?_toArray, List.getElem?_cons_succ, List.getElem?_cons_zero]; rfl) (by kernel_rfl) (by kernel_rfl) (by kernel_rfl) (by exact fun _ _ _ h => h) (Or.inl ⟨by rfl, ?ym153⟩) (by assumption) ?rm153
  case ym153 => (intro w hSw; (try dsimp only at hSw); go_simp; (try with_reducible rfl))
  try simp only [Act.put, List.setIfInBounds_toArray, List.set_cons_zero, List.set_cons_succ]
  refine wpAnyH_take (i := 4) (v := ?vm154) (by simp only [List.getElem?_toArray, List.getElem?_cons_succ, List.getElem?_cons_zero]; rfl) (by kernel_rfl) (by kernel_rfl) (by kernel_rfl) (by exact fun _ _ _ h => h) (Or.inl ⟨by rfl, ?ym154⟩) (by assumption) ?rm154
  case ym154 => (intro w hSw; (try dsimp only at hSw); go_simp; (try with_reducible rfl))
  try simp only [Act.put, List.setIfInBounds_toArray, List.set_cons_zero, List.set_cons_succ]
  refine wpAnyH_take (i := 5) (v := ?vm155) (by simp only [List.getElem?_toArray, List.getElem?_cons_succ, List.getElem?_cons_zero]; rfl) (by kernel_rfl) (by kernel_rfl) (by kernel_rfl) (by exact fun _ _ _ h => h) (Or.inl ⟨by rfl, ?ym155⟩) (by assumption) ?rm155
  case ym155 => (intro w hSw; (try dsimp only at hSw); go_simp; (try with_reducible rfl))
  try simp only [Act.put, List.setIfInBounds_toArray, List.set_cons_zero, List.set_cons_succ]
  refine wpAnyH_take (i := 6) (v := ?vm156) (by simp only [List.getElem?_toArray, List.getElem?_cons_succ, List.getElem?_cons_zero]; rfl) (by kernel_rfl) (by kernel_rfl) (by kernel_rfl) (by exact fun _ _ _ h => h) (Or.inl ⟨by rfl, ?ym156⟩) (by assumption) ?rm156
  case ym156 => (intro w hSw; (try dsimp only at hSw); go_simp; (try with_reducible rfl))
  try simp only [Act.put, List.setIfInBounds_toArray, List.set_cons_zero, List.set_cons_succ]
  refine wpAnyH_take (i := 7) (v := ?vm157) (by simp only [List.getElem?_toArray, List.getElem?_cons_succ, List.getElem?_cons_zero]; rfl) (by kernel_rfl) (by kernel_rfl) (by kernel_rfl) (by exact fun _ _ _ h => h) (Or.inl ⟨by rfl, ?ym157⟩) (by assumption) ?rm157
  case ym157 => (intro w hSw; (try dsimp only at hSw); go_simp; (try with_reducible rfl))
  try simp only [Act.put, List.setIfInBounds_toArray, List.set_cons_zero, List.set_cons_succ]
  refine wpAnyH_take (i := 8) (v := ?vm158) (by simp only [List.getElem?_toArray, List.getElem?_cons_succ, List.getElem?_cons_zero]; rfl) (by kernel_rfl) (by kernel_rfl) (by kernel_rfl) (by exact fun _ _ _ h => h) (Or.inl ⟨by rfl, ?ym158⟩) (by assumption) ?rm158
  case ym158 => (intro w hSw; (try dsimp only at hSw); go_simp; (try with_reducible rfl))
  try simp only [Act.put, List.setIfInBounds_toArray, List.set_cons_zero, List.set_cons_succ]
  refine wpAnyH_ready (rs := [9]) (by kernel_rfl) (by simp) (AllReadyH.cons (by simp only [List.getElem?_toArray, List.getElem?_cons_succ, List.getElem?_cons_zero]; rfl) (fun K hK => ?_) AllReadyH.nil)
  go_simp
  (go_at_call 56; (with_reducible refine (whole_yes hCD.out hA hxH.out hN).mono ?_); rintro e w2 ⟨rfl, hd2⟩; try go_wp2_with fail)
  refine hK.out _ _ (whole_S hCD.out hkl.out hd2 hHeld hB4 (by omega)) (fun hHeld2 => ?_)
  clear hK K
  try simp only [Act.put, List.setIfInBounds_toArray, List.set_cons_zero, List.set_cons_succ]
  refine wpAnyH_take (i := 10) (v := ?vm159) (by simp only [List.getElem?_toArray, List.getElem?_cons_succ, List.getElem?_cons_zero]; rfl) (by kernel_rfl) (by kernel_rfl) (by kernel_rfl) (by exact fun _ _ _ h => h) (Or.inl ⟨by rfl, ?ym159⟩) (by assumption) ?rm159
  case ym159 => (intro w hSw; (try dsimp only at hSw); go_simp; (try with_reducible rfl))
  try simp only [Act.put, List.setIfInBounds_toArray, List.set_cons_zero, List.set_cons_succ]
  obtain ⟨he2, ⟨z0, z1, z2⟩, hd⟩ := do_ret hbdD.out (by omega) (by omega) hkl.out heDD.out hd2 (.int .i64 0) (.int .i64 0) (.int .u32 0)
  have e0 := (Joins.cell_of_block he2 0).trans rfl; have e1 := (Joins.cell_of_block he2 1).trans rfl; have e2 := (Joins.cell_of_block he2 2).trans rfl; have k0 := frozen_of_row w2 (w.heap.size + 1) 0 _ _ he2; have k1 := frozen_of_row w2 (w.heap.size + 1) 1 _ _ he2; have k2 := frozen_of_row w2 (w.heap.size + 1) 2 _ _ he2
  clear hd2 he2 hHeld hHeld2
  refine wpAnyH_done (by kernel_rfl) ?_ _
  show Oper.wp _ _ _ _ _ _
  go_simp
  all_goals (go_wp2_with fail)
  refine bodyPost_ret (by simp [results, Tryd.results33, go_sem, z0, z1, z2]; try rfl) rfl ⟨rfl, hd⟩
end
end Go.Proofs.YtlchefdddgbohaaDoor
