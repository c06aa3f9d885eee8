/- cpu.do: z: zadd, zsub. -/
import Derived.Test.YtlchefdddgbohaaDoorCl
import Derived.Test.YtlchefdddgbohaaDoorRgL
import Derived.Test.YtlchefdddgbohaaDoorCz
import Derived.Test.YtlchefdddgbohaaDoorWh
import Derived.Test.YtlchefdddgbohaaDoorZx
namespace Go.Proofs.YtlchefdddgbohaaDoor
open Go.ChangeShapes Go.WideShapes Go.ChangeAt Go.RowKit
set_option linter.unusedVariables false
set_option linter.unusedSimpArgs false
set_option maxRecDepth 100000
section
variable {ks : Nat → Prop} {w : World} {p : Nat} {s : St}
open PlainF
set_option maxHeartbeats 8000000 in
theorem do_zadd (h : CpuAt LP ks w p s) {A B : Nat} (hA : A < 8) (hB : B < 8) (n f word fr : Int) (mem : Value) (hA4 : A < 4) (hB4 : B < 4) :
    Calls Tryd.prog 33 #[.pointer (some ⟨p, 0, none⟩), instV 30 A B n f, .int .i32 word, mem, .int .i64 fr] w (fun e w' => ∃ x y, Ans (Ieee.double.add (s.z A).1 (s.z B).1) x ∧ Ans (Ieee.double.add (s.z A).2 (s.z B).2) y ∧ Done LP ks w p { s with z := upd s.z A (x, y) } (effV 0 0 0) e w') := by
  have hA4' : (A : Int) < 4 := by omega
  have hB4' : (B : Int) < 4 := by omega
  have hA' : (A : Int) < 8 := by omega
  have hB' : (B : Int) < 8 := by omega
  have hA0 : (0 : Int) ≤ (A : Int) := by omega
  have hB0 : (0 : Int) ≤ (B : Int) := by omega
  go_enter Tryd.func33, Tryd.ntmps33
  go_wp2
  obtain ⟨W1, hW1⟩ : ∃ W1, W1 = w.alloc (.cells #[.int .i64 30, .int .i64 A, .int .i64 B, .int .i32 n, .int .i64 f] 34) := ⟨_, rfl⟩
  rw [← hW1]
  obtain ⟨W0, hW0⟩ : ∃ W0, W0 = W1.alloc (.cells #[.int .i64 0, .int .i64 0, .int .u32 0] 40) := ⟨_, rfl⟩
  obtain ⟨hs1, hsD, hbd, hI, heD, hC⟩ := do_pre h 30 n f (A := A) hB hW1 hW0
  rw [← hW0]
  try rw [hs1]
  clear hW1 hW0 hs1
  have i0 := hI.o
  have i1 := hI.a
  have i2 := hI.b
  have i3 := hI.n
  have rB := hC.reg hB
  have rA := hC.reg hA
  have fA := hC.fz A
  have hlt := h.lt
  have hkl := Hid.intro h.kl
  have hp := Hid.intro h.kp
  clear h
  have hne : ¬ p = w.heap.size + 1 := by omega
  have hne2 : ¬ w.heap.size + 1 = p := by omega
  go_region_held3 (fun w' => w'.cell? ⟨w.heap.size, 1, none⟩ = some (.int .i64 A) ∧ w'.cell? ⟨w.heap.size, 2, none⟩ = some (.int .i64 B) ∧ w'.cell? ⟨p, B, none⟩ = some (.int .i32 (s.r B))) (exact ⟨i1, i2, rB⟩) (fail)
  generalize W0.drew = W at *
  replace hbd := Hid.intro hbd
  have hCH := Hid.intro hC
  have heH := Hid.intro heD
  have hnq : Hid (¬ ks (w.heap.size + 1)) := fun hk => by have := hkl.out _ hk; omega
  have zA := hC.zr hA4
  have zfA := hC.fz (8 + A)
  have zB := hC.zr hB4
  clear hI hC heD
  go_wp2
  have hCD := Hid.intro hCH.out.drew
  have heDD := Hid.intro (show W.drew.heap[w.heap.size + 1]? = _ from heH.out)
  have hbdD := Hid.intro hbd.out.drew
  have hsDD : W.drew.heap.size = w.heap.size + 2 := hsD
  refine wp_region_last (by kernel_rfl) 18 _ rfl rfl rfl (by kernel_rfl) (fun W' => W'.cell? ⟨w.heap.size, 1, none⟩ = some (.int .i64 A) ∧ W'.cell? ⟨w.heap.size, 2, none⟩ = some (.int .i64 B) ∧ W'.cell? ⟨p, 8 + A, none⟩ = some (.complex .f64 (s.z A).1 (s.z A).2) ∧ W'.cell? ⟨p, 8 + B, none⟩ = some (.complex .f64 (s.z B).1 (s.z B).2)) ⟨i1, i2, zA, zB⟩ (fun hHeld => ?_)
  simp only [List.setIfInBounds_toArray, List.set_cons_succ, List.set_cons_zero, noOp]
  clear i0 i1 i2 i3 rA rB fA hCH heH hbd hsD zA zfA zB
  generalize W.drew = W2 at *
  refine wpAnyH_take (i := 0) (v := ?vm83) (by simp only [List.getElem?_toArray, List.getElem?_cons_succ, List.getElem?_cons_zero]; rfl) (by kernel_rfl) (by kernel_rfl) (by kernel_rfl) (by exact fun _ _ _ h => h) (Or.inl ⟨by rfl, ?ym83⟩) (by assumption) ?rm83
  case ym83 => (intro w hSw; (try dsimp only at hSw); go_simp; (try with_reducible rfl))
  try simp only [Act.put, List.setIfInBounds_toArray, List.set_cons_zero, List.set_cons_succ]
  refine wpAnyH_take (i := 1) (v := ?vm84) (by simp only [List.getElem?_toArray, List.getElem?_cons_succ, List.getElem?_cons_zero]; rfl) (by kernel_rfl) (by kernel_rfl) (by kernel_rfl) (by exact fun _ _ _ h => h) (Or.inl ⟨by rfl, ?ym84⟩) (by assumption) ?rm84
  case ym84 => (intro w hSw; (try dsimp only at hSw); go_simp; (try with_reducible rfl))
  try simp only [Act.put, List.setIfInBounds_toArray, List.set_cons_zero, List.set_cons_succ]
  refine wpAnyH_take (i := 2) (v := ?vm85) (by simp only [List.getElem?_toArray, List.getElem?_cons_succ, List.getElem?_cons_zero]; rfl) (by kernel_rfl) (by kernel_rfl) (by kernel_rfl) (by exact fun _ _ _ h => h) (Or.inl ⟨by rfl, ?ym85⟩) (by assumption) ?rm85
  case ym85 => (intro w hSw; (try dsimp only at hSw); go_simp; (try with_reducible rfl))
  try simp only [Act.put, List.setIfInBounds_toArray, List.set_cons_zero, List.set_cons_succ]
  refine wpAnyH_take (i := 3) (v := ?vm86) (by simp only [List.getElem?_toArray, List.getElem?_cons_succ, List.getElem?_cons_zero]; rfl) (by kernel_rfl) (by kernel_rfl) (by kernel_rfl) (by exact fun _ _ _ h => h) (Or.inl ⟨by rfl, ?ym86⟩) (by assumption) ?rm86
  case ym86 => (intro w hSw; (try dsimp only at hSw); go_simp; (try with_reducible rfl))
  try simp only [Act.put, List.setIfInBounds_toArray, List.set_cons_zero, List.set_cons_succ]
  refine wpAnyH_take (i := 4) (v := ?vm87) (by simp only [List.getElem?_toArray, List.getElem?_cons_succ, List.getElem?_cons_zero]; rfl) (by kernel_rfl) (by kernel_rfl) (by kernel_rfl) (by exact fun _ _ _ h => h) (Or.inl ⟨by rfl, ?ym87⟩) (by assumption) ?rm87
  case ym87 => (intro w hSw; (try dsimp only at hSw); go_simp; (try with_reducible rfl))
  try simp only [Act.put, List.setIfInBounds_toArray, List.set_cons_zero, List.set_cons_succ]
  refine wpAnyH_take (i := 5) (v := ?vm88) (by simp only [List.getElem?_toArray, List.getElem?_cons_succ, List.getElem?_cons_zero]; rfl) (by kernel_rfl) (by kernel_rfl) (by kernel_rfl) (by exact fun _ _ _ h => h) (Or.inl ⟨by rfl, ?ym88⟩) (by assumption) ?rm88
  case ym88 => (intro w hSw; (try dsimp only at hSw); go_simp; (try with_reducible rfl))
  try simp only [Act.put, List.setIfInBounds_toArray, List.set_cons_zero, List.set_cons_succ]
  refine wpAnyH_take (i := 6) (v := ?vm89) (by simp only [List.getElem?_toArray, List.getElem?_cons_succ, List.getElem?_cons_zero]; rfl) (by kernel_rfl) (by kernel_rfl) (by kernel_rfl) (by exact fun _ _ _ h => h) (Or.inl ⟨by rfl, ?ym89⟩) (by assumption) ?rm89
  case ym89 => (intro w hSw; (try dsimp only at hSw); go_simp; (try with_reducible rfl))
  try simp only [Act.put, List.setIfInBounds_toArray, List.set_cons_zero, List.set_cons_succ]
  refine wpAnyH_take (i := 7) (v := ?vm90) (by simp only [List.getElem?_toArray, List.getElem?_cons_succ, List.getElem?_cons_zero]; rfl) (by kernel_rfl) (by kernel_rfl) (by kernel_rfl) (by exact fun _ _ _ h => h) (Or.inl ⟨by rfl, ?ym90⟩) (by assumption) ?rm90
  case ym90 => (intro w hSw; (try dsimp only at hSw); go_simp; (try with_reducible rfl))
  try simp only [Act.put, List.setIfInBounds_toArray, List.set_cons_zero, List.set_cons_succ]
  refine wpAnyH_take (i := 8) (v := ?vm91) (by simp only [List.getElem?_toArray, List.getElem?_cons_succ, List.getElem?_cons_zero]; rfl) (by kernel_rfl) (by kernel_rfl) (by kernel_rfl) (by exact fun _ _ _ h => h) (Or.inl ⟨by rfl, ?ym91⟩) (by assumption) ?rm91
  case ym91 => (intro w hSw; (try dsimp only at hSw); go_simp; (try with_reducible rfl))
  try simp only [Act.put, List.setIfInBounds_toArray, List.set_cons_zero, List.set_cons_succ]
  refine wpAnyH_take (i := 9) (v := ?vm92) (by simp only [List.getElem?_toArray, List.getElem?_cons_succ, List.getElem?_cons_zero]; rfl) (by kernel_rfl) (by kernel_rfl) (by kernel_rfl) (by exact fun _ _ _ h => h) (Or.inl ⟨by rfl, ?ym92⟩) (by assumption) ?rm92
  case ym92 => (intro w hSw; (try dsimp only at hSw); go_simp; (try with_reducible rfl))
  try simp only [Act.put, List.setIfInBounds_toArray, List.set_cons_zero, List.set_cons_succ]
  refine wpAnyH_take (i := 10) (v := ?vm93) (by simp only [List.getElem?_toArray, List.getElem?_cons_succ, List.getElem?_cons_zero]; rfl) (by kernel_rfl) (by kernel_rfl) (by kernel_rfl) (by exact fun _ _ _ h => h) (Or.inl ⟨by rfl, ?ym93⟩) (by assumption) ?rm93
  case ym93 => (intro w hSw; (try dsimp only at hSw); go_simp; (try with_reducible rfl))
  try simp only [Act.put, List.setIfInBounds_toArray, List.set_cons_zero, List.set_cons_succ]
  refine wpAnyH_take (i := 11) (v := ?vm94) (by simp only [List.getElem?_toArray, List.getElem?_cons_succ, List.getElem?_cons_zero]; rfl) (by kernel_rfl) (by kernel_rfl) (by kernel_rfl) (by exact fun _ _ _ h => h) (Or.inl ⟨by rfl, ?ym94⟩) (by assumption) ?rm94
  case ym94 => (intro w hSw; (try dsimp only at hSw); go_simp; (try with_reducible rfl))
  try simp only [Act.put, List.setIfInBounds_toArray, List.set_cons_zero, List.set_cons_succ]
  refine wpAnyH_take (i := 12) (v := ?vm95) (by simp only [List.getElem?_toArray, List.getElem?_cons_succ, List.getElem?_cons_zero]; rfl) (by kernel_rfl) (by kernel_rfl) (by kernel_rfl) (by exact fun _ _ _ h => h) (Or.inl ⟨by rfl, ?ym95⟩) (by assumption) ?rm95
  case ym95 => (intro w hSw; (try dsimp only at hSw); go_simp; (try with_reducible rfl))
  try simp only [Act.put, List.setIfInBounds_toArray, List.set_cons_zero, List.set_cons_succ]
  refine wpAnyH_take (i := 13) (v := ?vm96) (by simp only [List.getElem?_toArray, List.getElem?_cons_succ, List.getElem?_cons_zero]; rfl) (by kernel_rfl) (by kernel_rfl) (by kernel_rfl) (by exact fun _ _ _ h => h) (Or.inl ⟨by rfl, ?ym96⟩) (by assumption) ?rm96
  case ym96 => (intro w hSw; (try dsimp only at hSw); go_simp; (try with_reducible rfl))
  try simp only [Act.put, List.setIfInBounds_toArray, List.set_cons_zero, List.set_cons_succ]
  refine wpAnyH_take (i := 15) (v := ?vm97) (by simp only [List.getElem?_toArray, List.getElem?_cons_succ, List.getElem?_cons_zero]; rfl) (by kernel_rfl) (by kernel_rfl) (by kernel_rfl) (by exact fun _ _ _ h => h) (Or.inl ⟨by rfl, ?ym97⟩) (by assumption) ?rm97
  case ym97 => (intro w hSw; (try dsimp only at hSw); go_simp; (try with_reducible rfl))
  try simp only [Act.put, List.setIfInBounds_toArray, List.set_cons_zero, List.set_cons_succ]
  refine wpAnyH_take (i := 16) (v := ?vm98) (by simp only [List.getElem?_toArray, List.getElem?_cons_succ, List.getElem?_cons_zero]; rfl) (by kernel_rfl) (by kernel_rfl) (by kernel_rfl) (by exact fun _ _ _ h => h) (Or.inl ⟨by rfl, ?ym98⟩) (by assumption) ?rm98
  case ym98 => (intro w hSw; (try dsimp only at hSw); go_simp; (try with_reducible rfl))
  try simp only [Act.put, List.setIfInBounds_toArray, List.set_cons_zero, List.set_cons_succ]
  obtain ⟨x, y, w3, hrun, hsm, ax, ay, nx, ny⟩ := run_addC (s.z A).1 (s.z A).2 (s.z B).1 (s.z B).2 W2
  refine wpAnyH_ready (rs := [14]) (by kernel_rfl) (by simp) (AllReadyH.cons (by simp only [List.getElem?_toArray, List.getElem?_cons_succ, List.getElem?_cons_zero]; rfl) (fun K hK => ?_) AllReadyH.nil)
  go_simp
  (skip)
  refine hK.out _ _ ⟨hsm.cell hHeld.1, hsm.cell hHeld.2.1, hsm.cell hHeld.2.2.1, hsm.cell hHeld.2.2.2⟩ (fun hHeld2 => ?_)
  clear hK K
  try simp only [Act.put, List.setIfInBounds_toArray, List.set_cons_zero, List.set_cons_succ]
  refine wpAnyH_take (i := 17) (v := ?vm99) (by simp only [List.getElem?_toArray, List.getElem?_cons_succ, List.getElem?_cons_zero]; rfl) (by kernel_rfl) (by kernel_rfl) (by kernel_rfl) (by exact fun _ _ _ h => h) (Or.inl ⟨by rfl, ?ym99⟩) (by assumption) ?rm99
  case ym99 => (intro w hSw; (try dsimp only at hSw); go_simp; (try with_reducible rfl))
  try simp only [Act.put, List.setIfInBounds_toArray, List.set_cons_zero, List.set_cons_succ]
  refine wpAnyH_take (i := 18) (v := ?vm100) (by simp only [List.getElem?_toArray, List.getElem?_cons_succ, List.getElem?_cons_zero]; rfl) (by kernel_rfl) (by kernel_rfl) (by kernel_rfl) (by exact fun _ _ _ h => h) (Or.inl ⟨by rfl, ?ym100⟩) (by assumption) ?rm100
  case ym100 => (intro w hSw; (try dsimp only at hSw); go_simp; (try with_reducible rfl))
  try simp only [Act.put, List.setIfInBounds_toArray, List.set_cons_zero, List.set_cons_succ]
  have hlx : x < 2 ^ 64 := word_lt ax nx fun u hu => f_lt_add hu
  have hly : y < 2 ^ 64 := word_lt ay ny fun u hu => f_lt_add hu
  have hC3 := Hid.intro (hCD.out.below hsm.2)
  have he3 := Hid.intro ((hsm.2.block _ (by omega)).trans heDD.out)
  have hb3 := Hid.intro (hbdD.out.trans (hsm.2.mono hbdD.out.size))
  have hs3 := hsm.2.size
  clear hrun hsm nx ny
  have hC := hC3.out
  have heD := he3.out
  have zfA := hC.fz (8 + A)
  have zA := hC.zr hA4
  have hst := store_cx (x) (y) zA zfA
  have e0 := (Joins.cell_of_block heD 0).trans rfl
  have e1 := (Joins.cell_of_block heD 1).trans rfl
  have e2 := (Joins.cell_of_block heD 2).trans rfl
  have k0 := frozen_of_row _ (w.heap.size + 1) 0 _ _ heD
  have k1 := frozen_of_row _ (w.heap.size + 1) 1 _ _ heD
  have k2 := frozen_of_row _ (w.heap.size + 1) 2 _ _ heD
  obtain ⟨hC2, hg2⟩ := hC.setZ okP hA4 (x := x) (y := y) hlx hly
  have he2 := (hg2.block _ (by omega) (fun e => hne2 (Option.some.inj e))).trans heD
  obtain ⟨⟨z0, z1, z2⟩, hd⟩ := do_end he2 ((Moved.of_below hb3.out).grown hg2 (fun j e => by cases e; exact hp.out)) (More.refl ks w) hC2 (by omega) hnq.out (.int .i64 0) (.int .i64 0) (.int .u32 0)
  clear hC2 hg2 he2
  refine wpAnyH_done (by kernel_rfl) ?_ _
  show Oper.wp _ _ _ _ _ _
  go_simp
  all_goals (go_wp2_with fail)
  refine bodyPost_ret (by simp [results, Tryd.results33, go_sem, z0, z1, z2]; try rfl) rfl ⟨_, _, ax, ay, rfl, hd⟩
set_option maxHeartbeats 8000000 in
theorem do_zsub (h : CpuAt LP ks w p s) {A B : Nat} (hA : A < 8) (hB : B < 8) (n f word fr : Int) (mem : Value) (hA4 : A < 4) (hB4 : B < 4) :
    Calls Tryd.prog 33 #[.pointer (some ⟨p, 0, none⟩), instV 31 A B n f, .int .i32 word, mem, .int .i64 fr] w (fun e w' => ∃ x y, Ans (Ieee.double.sub (s.z A).1 (s.z B).1) x ∧ Ans (Ieee.double.sub (s.z A).2 (s.z B).2) y ∧ Done LP ks w p { s with z := upd s.z A (x, y) } (effV 0 0 0) e w') := by
  have hA4' : (A : Int) < 4 := by omega
  have hB4' : (B : Int) < 4 := by omega
  have hA' : (A : Int) < 8 := by omega
  have hB' : (B : Int) < 8 := by omega
  have hA0 : (0 : Int) ≤ (A : Int) := by omega
  have hB0 : (0 : Int) ≤ (B : Int) := by omega
  go_enter Tryd.func33, Tryd.ntmps33
  go_wp2
  obtain ⟨W1, hW1⟩ : ∃ W1, W1 = w.alloc (.cells #[.int .i64 31, .int .i64 A, .int .i64 B, .int .i32 n, .int .i64 f] 34) := ⟨_, rfl⟩
  rw [← hW1]
  obtain ⟨W0, hW0⟩ : ∃ W0, W0 = W1.alloc (.cells #[.int .i64 0, .int .i64 0, .int .u32 0] 40) := ⟨_, rfl⟩
  obtain ⟨hs1, hsD, hbd, hI, heD, hC⟩ := do_pre h 31 n f (A := A) hB hW1 hW0
  rw [← hW0]
  try rw [hs1]
  clear hW1 hW0 hs1
  have i0 := hI.o
  have i1 := hI.a
  have i2 := hI.b
  have i3 := hI.n
  have rB := hC.reg hB
  have rA := hC.reg hA
  have fA := hC.fz A
  have hlt := h.lt
  have hkl := Hid.intro h.kl
  have hp := Hid.intro h.kp
  clear h
  have hne : ¬ p = w.heap.size + 1 := by omega
  have hne2 : ¬ w.heap.size + 1 = p := by omega
  go_region_held3 (fun w' => w'.cell? ⟨w.heap.size, 1, none⟩ = some (.int .i64 A) ∧ w'.cell? ⟨w.heap.size, 2, none⟩ = some (.int .i64 B) ∧ w'.cell? ⟨p, B, none⟩ = some (.int .i32 (s.r B))) (exact ⟨i1, i2, rB⟩) (fail)
  generalize W0.drew = W at *
  replace hbd := Hid.intro hbd
  have hCH := Hid.intro hC
  have heH := Hid.intro heD
  have hnq : Hid (¬ ks (w.heap.size + 1)) := fun hk => by have := hkl.out _ hk; omega
  have zA := hC.zr hA4
  have zfA := hC.fz (8 + A)
  have zB := hC.zr hB4
  clear hI hC heD
  go_wp2
  have hCD := Hid.intro hCH.out.drew
  have heDD := Hid.intro (show W.drew.heap[w.heap.size + 1]? = _ from heH.out)
  have hbdD := Hid.intro hbd.out.drew
  have hsDD : W.drew.heap.size = w.heap.size + 2 := hsD
  refine wp_region_last (by kernel_rfl) 18 _ rfl rfl rfl (by kernel_rfl) (fun W' => W'.cell? ⟨w.heap.size, 1, none⟩ = some (.int .i64 A) ∧ W'.cell? ⟨w.heap.size, 2, none⟩ = some (.int .i64 B) ∧ W'.cell? ⟨p, 8 + A, none⟩ = some (.complex .f64 (s.z A).1 (s.z A).2) ∧ W'.cell? ⟨p, 8 + B, none⟩ = some (.complex .f64 (s.z B).1 (s.z B).2)) ⟨i1, i2, zA, zB⟩ (fun hHeld => ?_)
  simp only [List.setIfInBounds_toArray, List.set_cons_succ, List.set_cons_zero, noOp]
  clear i0 i1 i2 i3 rA rB fA hCH heH hbd hsD zA zfA zB
  generalize W.drew = W2 at *
  refine wpAnyH_take (i := 0) (v := ?vm101) (by simp only [List.getElem?_toArray, List.getElem?_cons_succ, List.getElem?_cons_zero]; rfl) (by kernel_rfl) (by kernel_rfl) (by kernel_rfl) (by exact fun _ _ _ h => h) (Or.inl ⟨by rfl, ?ym101⟩) (by assumption) ?rm101
  case ym101 => (intro w hSw; (try dsimp only at hSw); go_simp; (try with_reducible rfl))
  try simp only [Act.put, List.setIfInBounds_toArray, List.set_cons_zero, List.set_cons_succ]
  refine wpAnyH_take (i := 1) (v := ?vm102) (by simp only [List.getElem?_toArray, List.getElem?_cons_succ, List.getElem?_cons_zero]; rfl) (by kernel_rfl) (by kernel_rfl) (by kernel_rfl) (by exact fun _ _ _ h => h) (Or.inl ⟨by rfl, ?ym102⟩) (by assumption) ?rm102
  case ym102 => (intro w hSw; (try dsimp only at hSw); go_simp; (try with_reducible rfl))
  try simp only [Act.put, List.setIfInBounds_toArray, List.set_cons_zero, List.set_cons_succ]
  refine wpAnyH_take (i := 2) (v := ?vm103) (by simp only [List.getElem?_toArray, List.getElem?_cons_succ, List.getElem?_cons_zero]; rfl) (by kernel_rfl) (by kernel_rfl) (by kernel_rfl) (by exact fun _ _ _ h => h) (Or.inl ⟨by rfl, ?ym103⟩) (by assumption) ?rm103
  case ym103 => (intro w hSw; (try dsimp only at hSw); go_simp; (try with_reducible rfl))
  try simp only [Act.put, List.setIfInBounds_toArray, List.set_cons_zero, List.set_cons_succ]
  refine wpAnyH_take (i := 3) (v := ?vm104) (by simp only [List.getElem?_toArray, List.getElem?_cons_succ, List.getElem?_cons_zero]; rfl) (by kernel_rfl) (by kernel_rfl) (by kernel_rfl) (by exact fun _ _ _ h => h) (Or.inl ⟨by rfl, ?ym104⟩) (by assumption) ?rm104
  case ym104 => (intro w hSw; (try dsimp only at hSw); go_simp; (try with_reducible rfl))
  try simp only [Act.put, List.setIfInBounds_toArray, List.set_cons_zero, List.set_cons_succ]
  refine wpAnyH_take (i := 4) (v := ?vm105) (by simp only [List.getElem?_toArray, List.getElem?_cons_succ, List.getElem?_cons_zero]; rfl) (by kernel_rfl) (by kernel_rfl) (by kernel_rfl) (by exact fun _ _ _ h => h) (Or.inl ⟨by rfl, ?ym105⟩) (by assumption) ?rm105
  case ym105 => (intro w hSw; (try dsimp only at hSw); go_simp; (try with_reducible rfl))
  try simp only [Act.put, List.setIfInBounds_toArray, List.set_cons_zero, List.set_cons_succ]
  refine wpAnyH_take (i := 5) (v := ?vm106) (by simp only [List.getElem?_toArray, List.getElem?_cons_succ, List.getElem?_cons_zero]; rfl) (by kernel_rfl) (by kernel_rfl) (by kernel_rfl) (by exact fun _ _ _ h => h) (Or.inl ⟨by rfl, ?ym106⟩) (by assumption) ?rm106
  case ym106 => (intro w hSw; (try dsimp only at hSw); go_simp; (try with_reducible rfl))
  try simp only [Act.put, List.setIfInBounds_toArray, List.set_cons_zero, List.set_cons_succ]
  refine wpAnyH_take (i := 6) (v := ?vm107) (by simp only [List.getElem?_toArray, List.getElem?_cons_succ, List.getElem?_cons_zero]; rfl) (by kernel_rfl) (by kernel_rfl) (by kernel_rfl) (by exact fun _ _ _ h => h) (Or.inl ⟨by rfl, ?ym107⟩) (by assumption) ?rm107
  case ym107 => (intro w hSw; (try dsimp only at hSw); go_simp; (try with_reducible rfl))
  try simp only [Act.put, List.setIfInBounds_toArray, List.set_cons_zero, List.set_cons_succ]
  refine wpAnyH_take (i := 7) (v := ?vm108) (by simp only [List.getElem?_toArray, List.getElem?_cons_succ, List.getElem?_cons_zero]; rfl) (by kernel_rfl) (by kernel_rfl) (by kernel_rfl) (by exact fun _ _ _ h => h) (Or.inl ⟨by rfl, ?ym108⟩) (by assumption) ?rm108
  case ym108 => (intro w hSw; (try dsimp only at hSw); go_simp; (try with_reducible rfl))
  try simp only [Act.put, List.setIfInBounds_toArray, List.set_cons_zero, List.set_cons_succ]
  refine wpAnyH_take (i := 8) (v := ?vm109) (by simp only [List.getElem?_toArray, List.getElem?_cons_succ, List.getElem?_cons_zero]; rfl) (by kernel_rfl) (by kernel_rfl) (by kernel_rfl) (by exact fun _ _ _ h => h) (Or.inl ⟨by rfl, ?ym109⟩) (by assumption) ?rm109
  case ym109 => (intro w hSw; (try dsimp only at hSw); go_simp; (try with_reducible rfl))
  try simp only [Act.put, List.setIfInBounds_toArray, List.set_cons_zero, List.set_cons_succ]
  refine wpAnyH_take (i := 9) (v := ?vm110) (by simp only [List.getElem?_toArray, List.getElem?_cons_succ, List.getElem?_cons_zero]; rfl) (by kernel_rfl) (by kernel_rfl) (by kernel_rfl) (by exact fun _ _ _ h => h) (Or.inl ⟨by rfl, ?ym110⟩) (by assumption) ?rm110
  case ym110 => (intro w hSw; (try dsimp only at hSw); go_simp; (try with_reducible rfl))
  try simp only [Act.put, List.setIfInBounds_toArray, List.set_cons_zero, List.set_cons_succ]
  refine wpAnyH_take (i := 10) (v := ?vm111) (by simp only [List.getElem?_toArray, List.getElem?_cons_succ, List.getElem?_cons_zero]; rfl) (by kernel_rfl) (by kernel_rfl) (by kernel_rfl) (by exact fun _ _ _ h => h) (Or.inl ⟨by rfl, ?ym111⟩) (by assumption) ?rm111
  case ym111 => (intro w hSw; (try dsimp only at hSw); go_simp; (try with_reducible rfl))
  try simp only [Act.put, List.setIfInBounds_toArray, List.set_cons_zero, List.set_cons_succ]
  refine wpAnyH_take (i := 11) (v := ?vm112) (by simp only [List.getElem?_toArray, List.getElem?_cons_succ, List.getElem?_cons_zero]; rfl) (by kernel_rfl) (by kernel_rfl) (by kernel_rfl) (by exact fun _ _ _ h => h) (Or.inl ⟨by rfl, ?ym112⟩) (by assumption) ?rm112
  case ym112 => (intro w hSw; (try dsimp only at hSw); go_simp; (try with_reducible rfl))
  try simp only [Act.put, List.setIfInBounds_toArray, List.set_cons_zero, List.set_cons_succ]
  refine wpAnyH_take (i := 12) (v := ?vm113) (by simp only [List.getElem?_toArray, List.getElem?_cons_succ, List.getElem?_cons_zero]; rfl) (by kernel_rfl) (by kernel_rfl) (by kernel_rfl) (by exact fun _ _ _ h => h) (Or.inl ⟨by rfl, ?ym113⟩) (by assumption) ?rm113
  case ym113 => (intro w hSw; (try dsimp only at hSw); go_simp; (try with_reducible rfl))
  try simp only [Act.put, List.setIfInBounds_toArray, List.set_cons_zero, List.set_cons_succ]
  refine wpAnyH_take (i := 13) (v := ?vm114) (by simp only [List.getElem?_toArray, List.getElem?_cons_succ, List.getElem?_cons_zero]; rfl) (by kernel_rfl) (by kernel_rfl) (by kernel_rfl) (by exact fun _ _ _ h => h) (Or.inl ⟨by rfl, ?ym114⟩) (by assumption) ?rm114
  case ym114 => (intro w hSw; (try dsimp only at hSw); go_simp; (try with_reducible rfl))
  try simp only [Act.put, List.setIfInBounds_toArray, List.set_cons_zero, List.set_cons_succ]
  refine wpAnyH_take (i := 15) (v := ?vm115) (by simp only [List.getElem?_toArray, List.getElem?_cons_succ, List.getElem?_cons_zero]; rfl) (by kernel_rfl) (by kernel_rfl) (by kernel_rfl) (by exact fun _ _ _ h => h) (Or.inl ⟨by rfl, ?ym115⟩) (by assumption) ?rm115
  case ym115 => (intro w hSw; (try dsimp only at hSw); go_simp; (try with_reducible rfl))
  try simp only [Act.put, List.setIfInBounds_toArray, List.set_cons_zero, List.set_cons_succ]
  refine wpAnyH_take (i := 16) (v := ?vm116) (by simp only [List.getElem?_toArray, List.getElem?_cons_succ, List.getElem?_cons_zero]; rfl) (by kernel_rfl) (by kernel_rfl) (by kernel_rfl) (by exact fun _ _ _ h => h) (Or.inl ⟨by rfl, ?ym116⟩) (by assumption) ?rm116
  case ym116 => (intro w hSw; (try dsimp only at hSw); go_simp; (try with_reducible rfl))
  try simp only [Act.put, List.setIfInBounds_toArray, List.set_cons_zero, List.set_cons_succ]
  obtain ⟨x, y, w3, hrun, hsm, ax, ay, nx, ny⟩ := run_subC (s.z A).1 (s.z A).2 (s.z B).1 (s.z B).2 W2
  refine wpAnyH_ready (rs := [14]) (by kernel_rfl) (by simp) (AllReadyH.cons (by simp only [List.getElem?_toArray, List.getElem?_cons_succ, List.getElem?_cons_zero]; rfl) (fun K hK => ?_) AllReadyH.nil)
  go_simp
  (skip)
  refine hK.out _ _ ⟨hsm.cell hHeld.1, hsm.cell hHeld.2.1, hsm.cell hHeld.2.2.1, hsm.cell hHeld.2.2.2⟩ (fun hHeld2 => ?_)
  clear hK K
  try simp only [Act.put, List.setIfInBounds_toArray, List.set_cons_zero, List.set_cons_succ]
  refine wpAnyH_take (i := 17) (v := ?vm117) (by simp only [List.getElem?_toArray, List.getElem?_cons_succ, List.getElem?_cons_zero]; rfl) (by kernel_rfl) (by kernel_rfl) (by kernel_rfl) (by exact fun _ _ _ h => h) (Or.inl ⟨by rfl, ?ym117⟩) (by assumption) ?rm117
  case ym117 => (intro w hSw; (try dsimp only at hSw); go_simp; (try with_reducible rfl))
  try simp only [Act.put, List.setIfInBounds_toArray, List.set_cons_zero, List.set_cons_succ]
  refine wpAnyH_take (i := 18) (v := ?vm118) (by simp only [List.getElem?_toArray, List.getElem?_cons_succ, List.getElem?_cons_zero]; rfl) (by kernel_rfl) (by kernel_rfl) (by kernel_rfl) (by exact fun _ _ _ h => h) (Or.inl ⟨by rfl, ?ym118⟩) (by assumption) ?rm118
  case ym118 => (intro w hSw; (try dsimp only at hSw); go_simp; (try with_reducible rfl))
  try simp only [Act.put, List.setIfInBounds_toArray, List.set_cons_zero, List.set_cons_succ]
  have hlx : x < 2 ^ 64 := word_lt ax nx fun u hu => f_lt_sub hu
  have hly : y < 2 ^ 64 := word_lt ay ny fun u hu => f_lt_sub hu
  have hC3 := Hid.intro (hCD.out.below hsm.2)
  have he3 := Hid.intro ((hsm.2.block _ (by omega)).trans heDD.out)
  have hb3 := Hid.intro (hbdD.out.trans (hsm.2.mono hbdD.out.size))
  have hs3 := hsm.2.size
  clear hrun hsm nx ny
  have hC := hC3.out
  have heD := he3.out
  have zfA := hC.fz (8 + A)
  have zA := hC.zr hA4
  have hst := store_cx (x) (y) zA zfA
  have e0 := (Joins.cell_of_block heD 0).trans rfl
  have e1 := (Joins.cell_of_block heD 1).trans rfl
  have e2 := (Joins.cell_of_block heD 2).trans rfl
  have k0 := frozen_of_row _ (w.heap.size + 1) 0 _ _ heD
  have k1 := frozen_of_row _ (w.heap.size + 1) 1 _ _ heD
  have k2 := frozen_of_row _ (w.heap.size + 1) 2 _ _ heD
  obtain ⟨hC2, hg2⟩ := hC.setZ okP hA4 (x := x) (y := y) hlx hly
  have he2 := (hg2.block _ (by omega) (fun e => hne2 (Option.some.inj e))).trans heD
  obtain ⟨⟨z0, z1, z2⟩, hd⟩ := do_end he2 ((Moved.of_below hb3.out).grown hg2 (fun j e => by cases e; exact hp.out)) (More.refl ks w) hC2 (by omega) hnq.out (.int .i64 0) (.int .i64 0) (.int .u32 0)
  clear hC2 hg2 he2
  refine wpAnyH_done (by kernel_rfl) ?_ _
  show Oper.wp _ _ _ _ _ _
  go_simp
  all_goals (go_wp2_with fail)
  refine bodyPost_ret (by simp [results, Tryd.results33, go_sem, z0, z1, z2]; try rfl) rfl ⟨_, _, ax, ay, rfl, hd⟩
end
end Go.Proofs.YtlchefdddgbohaaDoor
