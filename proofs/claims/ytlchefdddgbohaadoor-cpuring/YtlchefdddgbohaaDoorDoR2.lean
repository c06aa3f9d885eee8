/- cpu.do: what is reckoned. -/
import Derived.Test.YtlchefdddgbohaaDoorCl
import Derived.Test.YtlchefdddgbohaaDoorRgL
import Derived.Test.YtlchefdddgbohaaDoorDoR
namespace Go.Proofs.YtlchefdddgbohaaDoor
open Go.ChangeShapes Go.WideShapes Go.ChangeAt Go.RowKit
set_option linter.unusedVariables false
set_option linter.unusedSimpArgs false
set_option maxRecDepth 100000
section
variable {ks : Nat → Prop} {w : World} {p : Nat} {s : St}
set_option maxHeartbeats 8000000 in
theorem do_add (h : CpuAt LP ks w p s) {A B : Nat} (hA : A < 8) (hB : B < 8) (n f word fr : Int) (mem : Value) :
    Calls Tryd.prog 33 #[.pointer (some ⟨p, 0, none⟩), instV 14 A B n f, .int .i32 word, mem, .int .i64 fr] w (Done LP ks w p { s with r := upd s.r A (reckN 14 (s.r A) (s.r B)) } (effV 0 0 0)) := by
  have hA' : (A : Int) < 8 := by omega
  have hB' : (B : Int) < 8 := by omega
  have hA0 : (0 : Int) ≤ (A : Int) := by omega
  have hB0 : (0 : Int) ≤ (B : Int) := by omega
  go_enter Tryd.func33, Tryd.ntmps33
  go_wp2
  obtain ⟨W1, hW1⟩ : ∃ W1, W1 = w.alloc (.cells #[.int .i64 14, .int .i64 A, .int .i64 B, .int .i32 n, .int .i64 f] 34) := ⟨_, rfl⟩
  rw [← hW1]
  obtain ⟨W0, hW0⟩ : ∃ W0, W0 = W1.alloc (.cells #[.int .i64 0, .int .i64 0, .int .u32 0] 40) := ⟨_, rfl⟩
  obtain ⟨hs1, hsD, hbd, hI, heD, hC⟩ := do_pre h 14 n f (A := A) hB hW1 hW0
  rw [← hW0]
  try rw [hs1]
  clear hW1 hW0 hs1
  have i0 := hI.o
  have i1 := hI.a
  have i2 := hI.b
  have i3 := hI.n
  have rB := hC.reg hB
  have rA := hC.reg hA
  have fA := hC.fz A
  have hlt := h.lt
  have hkl := Hid.intro h.kl
  have hp := Hid.intro h.kp
  clear h
  have hne : ¬ p = w.heap.size + 1 := by omega
  have hne2 : ¬ w.heap.size + 1 = p := by omega
  go_region_held3 (fun w' => w'.cell? ⟨w.heap.size, 1, none⟩ = some (.int .i64 A) ∧ w'.cell? ⟨w.heap.size, 2, none⟩ = some (.int .i64 B) ∧ w'.cell? ⟨p, B, none⟩ = some (.int .i32 (s.r B))) (exact ⟨i1, i2, rB⟩) (fail)
  generalize W0.drew = W at *
  replace hbd := Hid.intro hbd
  have hCH := Hid.intro hC
  have heH := Hid.intro heD
  have hnq : Hid (¬ ks (w.heap.size + 1)) := fun hk => by have := hkl.out _ hk; omega
  clear hI hC heD
  go_wp2
  have hCD := Hid.intro hCH.out.drew
  have heDD := Hid.intro (show W.drew.heap[w.heap.size + 1]? = _ from heH.out)
  have hbdD := Hid.intro hbd.out.drew
  have hsDD : W.drew.heap.size = w.heap.size + 2 := hsD
  refine wp_region_last (by kernel_rfl) 9 _ rfl rfl rfl (by kernel_rfl) (fun W' => W'.cell? ⟨w.heap.size, 0, none⟩ = some (.int .i64 14) ∧ W'.cell? ⟨p, A, none⟩ = some (.int .i32 (s.r A))) ⟨i0, rA⟩ (fun hHeld => ?_)
  simp only [List.setIfInBounds_toArray, List.set_cons_succ, List.set_cons_zero, noOp]
  clear i0 i1 i2 i3 rA rB fA hCH heH hbd hsD
  generalize W.drew = W2 at *
  obtain ⟨j0, rA⟩ := id hHeld
  refine wpAnyH_take (i := 0) (v := ?vm28) (by simp only [List.getElem?_toArray, List.getElem?_cons_succ, List.getElem?_cons_zero]; rfl) (by kernel_rfl) (by kernel_rfl) (by kernel_rfl) (by exact fun _ _ _ h => h) (Or.inl ⟨by rfl, ?ym28⟩) (by assumption) ?rm28
  case ym28 => (intro w hSw; (try dsimp only at hSw); go_simp; (try with_reducible rfl))
  try simp only [Act.put, List.setIfInBounds_toArray, List.set_cons_zero, List.set_cons_succ]
  refine wpAnyH_take (i := 1) (v := ?vm29) (by simp only [List.getElem?_toArray, List.getElem?_cons_succ, List.getElem?_cons_zero]; rfl) (by kernel_rfl) (by kernel_rfl) (by kernel_rfl) (by exact fun _ _ _ h => h) (Or.inl ⟨by rfl, ?ym29⟩) (by assumption) ?rm29
  case ym29 => (intro w hSw; (try dsimp only at hSw); go_simp; (try with_reducible rfl))
  try simp only [Act.put, List.setIfInBounds_toArray, List.set_cons_zero, List.set_cons_succ]
  refine wpAnyH_take (i := 2) (v := ?vm30) (by simp only [List.getElem?_toArray, List.getElem?_cons_succ, List.getElem?_cons_zero]; rfl) (by kernel_rfl) (by kernel_rfl) (by kernel_rfl) (by exact fun _ _ _ h => h) (Or.inl ⟨by rfl, ?ym30⟩) (by assumption) ?rm30
  case ym30 => (intro w hSw; (try dsimp only at hSw); go_simp; (try with_reducible rfl))
  try simp only [Act.put, List.setIfInBounds_toArray, List.set_cons_zero, List.set_cons_succ]
  refine wpAnyH_take (i := 3) (v := ?vm31) (by simp only [List.getElem?_toArray, List.getElem?_cons_succ, List.getElem?_cons_zero]; rfl) (by kernel_rfl) (by kernel_rfl) (by kernel_rfl) (by exact fun _ _ _ h => h) (Or.inl ⟨by rfl, ?ym31⟩) (by assumption) ?rm31
  case ym31 => (intro w hSw; (try dsimp only at hSw); go_simp; (try with_reducible rfl))
  try simp only [Act.put, List.setIfInBounds_toArray, List.set_cons_zero, List.set_cons_succ]
  refine wpAnyH_take (i := 4) (v := ?vm32) (by simp only [List.getElem?_toArray, List.getElem?_cons_succ, List.getElem?_cons_zero]; rfl) (by kernel_rfl) (by kernel_rfl) (by kernel_rfl) (by exact fun _ _ _ h => h) (Or.inl ⟨by rfl, ?ym32⟩) (by assumption) ?rm32
  case ym32 => (intro w hSw; (try dsimp only at hSw); go_simp; (try with_reducible rfl))
  try simp only [Act.put, List.setIfInBounds_toArray, List.set_cons_zero, List.set_cons_succ]
  refine wpAnyH_take (i := 5) (v := ?vm33) (by simp only [List.getElem?_toArray, List.getElem?_cons_succ, List.getElem?_cons_zero]; rfl) (by kernel_rfl) (by kernel_rfl) (by kernel_rfl) (by exact fun _ _ _ h => h) (Or.inl ⟨by rfl, ?ym33⟩) (by assumption) ?rm33
  case ym33 => (intro w hSw; (try dsimp only at hSw); go_simp; (try with_reducible rfl))
  try simp only [Act.put, List.setIfInBounds_toArray, List.set_cons_zero, List.set_cons_succ]
  refine wpAnyH_take (i := 6) (v := ?vm34) (by simp only [List.getElem?_toArray, List.getElem?_cons_succ, List.getElem?_cons_zero]; rfl) (by kernel_rfl) (by kernel_rfl) (by kernel_rfl) (by exact fun _ _ _ h => h) (Or.inl ⟨by rfl, ?ym34⟩) (by assumption) ?rm34
  case ym34 => (intro w hSw; (try dsimp only at hSw); go_simp; (try with_reducible rfl))
  try simp only [Act.put, List.setIfInBounds_toArray, List.set_cons_zero, List.set_cons_succ]
  refine wpAnyH_ready (rs := [7]) (by kernel_rfl) (by simp) (AllReadyH.cons (by simp only [List.getElem?_toArray, List.getElem?_cons_succ, List.getElem?_cons_zero]; rfl) (fun K hK => ?_) AllReadyH.nil)
  go_simp
  (go_at_call 49; (with_reducible refine (reck_any 14 _ _ (by unfold isReck; omega) _).mono ?_); rintro e w1 ⟨rfl, rfl⟩; try go_wp2_with fail)
  refine hK.out _ _ hHeld (fun hHeld2 => ?_)
  clear hK K
  try simp only [Act.put, List.setIfInBounds_toArray, List.set_cons_zero, List.set_cons_succ]
  refine wpAnyH_take (i := 8) (v := ?vm35) (by simp only [List.getElem?_toArray, List.getElem?_cons_succ, List.getElem?_cons_zero]; rfl) (by kernel_rfl) (by kernel_rfl) (by kernel_rfl) (by exact fun _ _ _ h => h) (Or.inl ⟨by rfl, ?ym35⟩) (by assumption) ?rm35
  case ym35 => (intro w hSw; (try dsimp only at hSw); go_simp; (try with_reducible rfl))
  try simp only [Act.put, List.setIfInBounds_toArray, List.set_cons_zero, List.set_cons_succ]
  refine wpAnyH_take (i := 9) (v := ?vm36) (by simp only [List.getElem?_toArray, List.getElem?_cons_succ, List.getElem?_cons_zero]; rfl) (by kernel_rfl) (by kernel_rfl) (by kernel_rfl) (by exact fun _ _ _ h => h) (Or.inl ⟨by rfl, ?ym36⟩) (by assumption) ?rm36
  case ym36 => (intro w hSw; (try dsimp only at hSw); go_simp; (try with_reducible rfl))
  try simp only [Act.put, List.setIfInBounds_toArray, List.set_cons_zero, List.set_cons_succ]
  have hC := hCD.out
  have heD := heDD.out
  have fA := hC.fz A
  have e0 := (Joins.cell_of_block heD 0).trans rfl
  have e1 := (Joins.cell_of_block heD 1).trans rfl
  have e2 := (Joins.cell_of_block heD 2).trans rfl
  have k0 := frozen_of_row _ (w.heap.size + 1) 0 _ _ heD
  have k1 := frozen_of_row _ (w.heap.size + 1) 1 _ _ heD
  have k2 := frozen_of_row _ (w.heap.size + 1) 2 _ _ heD
  have hrb := reckN_rb 14 (hC.rb A) (hC.rb B)
  obtain ⟨hC2, hg2⟩ := hC.setR okP hA hrb
  have he2 := (hg2.block _ (by omega) (fun e => hne2 (Option.some.inj e))).trans heD
  obtain ⟨⟨z0, z1, z2⟩, hd⟩ := do_end he2 ((Moved.of_below hbdD.out).grown hg2 (fun j e => by cases e; exact hp.out)) (More.refl ks w) hC2 (by omega) hnq.out (.int .i64 0) (.int .i64 0) (.int .u32 0)
  clear hC heD hC2 hg2 he2 hCD heDD hHeld hHeld2 hrb
  refine wpAnyH_done (by kernel_rfl) ?_ _
  show Oper.wp _ _ _ _ _ _
  go_simp
  all_goals (go_wp2_with fail)
  refine bodyPost_ret (by simp [results, Tryd.results33, go_sem, z0, z1, z2]; try rfl) rfl ⟨rfl, hd⟩
set_option maxHeartbeats 8000000 in
theorem do_sub (h : CpuAt LP ks w p s) {A B : Nat} (hA : A < 8) (hB : B < 8) (n f word fr : Int) (mem : Value) :
    Calls Tryd.prog 33 #[.pointer (some ⟨p, 0, none⟩), instV 15 A B n f, .int .i32 word, mem, .int .i64 fr] w (Done LP ks w p { s with r := upd s.r A (reckN 15 (s.r A) (s.r B)) } (effV 0 0 0)) := by
  have hA' : (A : Int) < 8 := by omega
  have hB' : (B : Int) < 8 := by omega
  have hA0 : (0 : Int) ≤ (A : Int) := by omega
  have hB0 : (0 : Int) ≤ (B : Int) := by omega
  go_enter Tryd.func33, Tryd.ntmps33
  go_wp2
  obtain ⟨W1, hW1⟩ : ∃ W1, W1 = w.alloc (.cells #[.int .i64 15, .int .i64 A, .int .i64 B, .int .i32 n, .int .i64 f] 34) := ⟨_, rfl⟩
  rw [← hW1]
  obtain ⟨W0, hW0⟩ : ∃ W0, W0 = W1.alloc (.cells #[.int .i64 0, .int .i64 0, .int .u32 0] 40) := ⟨_, rfl⟩
  obtain ⟨hs1, hsD, hbd, hI, heD, hC⟩ := do_pre h 15 n f (A := A) hB hW1 hW0
  rw [← hW0]
  try rw [hs1]
  clear hW1 hW0 hs1
  have i0 := hI.o
  have i1 := hI.a
  have i2 := hI.b
  have i3 := hI.n
  have rB := hC.reg hB
  have rA := hC.reg hA
  have fA := hC.fz A
  have hlt := h.lt
  have hkl := Hid.intro h.kl
  have hp := Hid.intro h.kp
  clear h
  have hne : ¬ p = w.heap.size + 1 := by omega
  have hne2 : ¬ w.heap.size + 1 = p := by omega
  go_region_held3 (fun w' => w'.cell? ⟨w.heap.size, 1, none⟩ = some (.int .i64 A) ∧ w'.cell? ⟨w.heap.size, 2, none⟩ = some (.int .i64 B) ∧ w'.cell? ⟨p, B, none⟩ = some (.int .i32 (s.r B))) (exact ⟨i1, i2, rB⟩) (fail)
  generalize W0.drew = W at *
  replace hbd := Hid.intro hbd
  have hCH := Hid.intro hC
  have heH := Hid.intro heD
  have hnq : Hid (¬ ks (w.heap.size + 1)) := fun hk => by have := hkl.out _ hk; omega
  clear hI hC heD
  go_wp2
  have hCD := Hid.intro hCH.out.drew
  have heDD := Hid.intro (show W.drew.heap[w.heap.size + 1]? = _ from heH.out)
  have hbdD := Hid.intro hbd.out.drew
  have hsDD : W.drew.heap.size = w.heap.size + 2 := hsD
  refine wp_region_last (by kernel_rfl) 9 _ rfl rfl rfl (by kernel_rfl) (fun W' => W'.cell? ⟨w.heap.size, 0, none⟩ = some (.int .i64 15) ∧ W'.cell? ⟨p, A, none⟩ = some (.int .i32 (s.r A))) ⟨i0, rA⟩ (fun hHeld => ?_)
  simp only [List.setIfInBounds_toArray, List.set_cons_succ, List.set_cons_zero, noOp]
  clear i0 i1 i2 i3 rA rB fA hCH heH hbd hsD
  generalize W.drew = W2 at *
  obtain ⟨j0, rA⟩ := id hHeld
  refine wpAnyH_take (i := 0) (v := ?vm37) (by simp only [List.getElem?_toArray, List.getElem?_cons_succ, List.getElem?_cons_zero]; rfl) (by kernel_rfl) (by kernel_rfl) (by kernel_rfl) (by exact fun _ _ _ h => h) (Or.inl ⟨by rfl, ?ym37⟩) (by assumption) ?rm37
  case ym37 => (intro w hSw; (try dsimp only at hSw); go_simp; (try with_reducible rfl))
  try simp only [Act.put, List.setIfInBounds_toArray, List.set_cons_zero, List.set_cons_succ]
  refine wpAnyH_take (i := 1) (v := ?vm38) (by simp only [List.getElem?_toArray, List.getElem?_cons_succ, List.getElem?_cons_zero]; rfl) (by kernel_rfl) (by kernel_rfl) (by kernel_rfl) (by exact fun _ _ _ h => h) (Or.inl ⟨by rfl, ?ym38⟩) (by assumption) ?rm38
  case ym38 => (intro w hSw; (try dsimp only at hSw); go_simp; (try with_reducible rfl))
  try simp only [Act.put, List.setIfInBounds_toArray, List.set_cons_zero, List.set_cons_succ]
  refine wpAnyH_take (i := 2) (v := ?vm39) (by simp only [List.getElem?_toArray, List.getElem?_cons_succ, List.getElem?_cons_zero]; rfl) (by kernel_rfl) (by kernel_rfl) (by kernel_rfl) (by exact fun _ _ _ h => h) (Or.inl ⟨by rfl, ?ym39⟩) (by assumption) ?rm39
  case ym39 => (intro w hSw; (try dsimp only at hSw); go_simp; (try with_reducible rfl))
  try simp only [Act.put, List.setIfInBounds_toArray, List.set_cons_zero, List.set_cons_succ]
  refine wpAnyH_take (i := 3) (v := ?vm40) (by simp only [List.getElem?_toArray, List.getElem?_cons_succ, List.getElem?_cons_zero]; rfl) (by kernel_rfl) (by kernel_rfl) (by kernel_rfl) (by exact fun _ _ _ h => h) (Or.inl ⟨by rfl, ?ym40⟩) (by assumption) ?rm40
  case ym40 => (intro w hSw; (try dsimp only at hSw); go_simp; (try with_reducible rfl))
  try simp only [Act.put, List.setIfInBounds_toArray, List.set_cons_zero, List.set_cons_succ]
  refine wpAnyH_take (i := 4) (v := ?vm41) (by simp only [List.getElem?_toArray, List.getElem?_cons_succ, List.getElem?_cons_zero]; rfl) (by kernel_rfl) (by kernel_rfl) (by kernel_rfl) (by exact fun _ _ _ h => h) (Or.inl ⟨by rfl, ?ym41⟩) (by assumption) ?rm41
  case ym41 => (intro w hSw; (try dsimp only at hSw); go_simp; (try with_reducible rfl))
  try simp only [Act.put, List.setIfInBounds_toArray, List.set_cons_zero, List.set_cons_succ]
  refine wpAnyH_take (i := 5) (v := ?vm42) (by simp only [List.getElem?_toArray, List.getElem?_cons_succ, List.getElem?_cons_zero]; rfl) (by kernel_rfl) (by kernel_rfl) (by kernel_rfl) (by exact fun _ _ _ h => h) (Or.inl ⟨by rfl, ?ym42⟩) (by assumption) ?rm42
  case ym42 => (intro w hSw; (try dsimp only at hSw); go_simp; (try with_reducible rfl))
  try simp only [Act.put, List.setIfInBounds_toArray, List.set_cons_zero, List.set_cons_succ]
  refine wpAnyH_take (i := 6) (v := ?vm43) (by simp only [List.getElem?_toArray, List.getElem?_cons_succ, List.getElem?_cons_zero]; rfl) (by kernel_rfl) (by kernel_rfl) (by kernel_rfl) (by exact fun _ _ _ h => h) (Or.inl ⟨by rfl, ?ym43⟩) (by assumption) ?rm43
  case ym43 => (intro w hSw; (try dsimp only at hSw); go_simp; (try with_reducible rfl))
  try simp only [Act.put, List.setIfInBounds_toArray, List.set_cons_zero, List.set_cons_succ]
  refine wpAnyH_ready (rs := [7]) (by kernel_rfl) (by simp) (AllReadyH.cons (by simp only [List.getElem?_toArray, List.getElem?_cons_succ, List.getElem?_cons_zero]; rfl) (fun K hK => ?_) AllReadyH.nil)
  go_simp
  (go_at_call 49; (with_reducible refine (reck_any 15 _ _ (by unfold isReck; omega) _).mono ?_); rintro e w1 ⟨rfl, rfl⟩; try go_wp2_with fail)
  refine hK.out _ _ hHeld (fun hHeld2 => ?_)
  clear hK K
  try simp only [Act.put, List.setIfInBounds_toArray, List.set_cons_zero, List.set_cons_succ]
  refine wpAnyH_take (i := 8) (v := ?vm44) (by simp only [List.getElem?_toArray, List.getElem?_cons_succ, List.getElem?_cons_zero]; rfl) (by kernel_rfl) (by kernel_rfl) (by kernel_rfl) (by exact fun _ _ _ h => h) (Or.inl ⟨by rfl, ?ym44⟩) (by assumption) ?rm44
  case ym44 => (intro w hSw; (try dsimp only at hSw); go_simp; (try with_reducible rfl))
  try simp only [Act.put, List.setIfInBounds_toArray, List.set_cons_zero, List.set_cons_succ]
  refine wpAnyH_take (i := 9) (v := ?vm45) (by simp only [List.getElem?_toArray, List.getElem?_cons_succ, List.getElem?_cons_zero]; rfl) (by kernel_rfl) (by kernel_rfl) (by kernel_rfl) (by exact fun _ _ _ h => h) (Or.inl ⟨by rfl, ?ym45⟩) (by assumption) ?rm45
  case ym45 => (intro w hSw; (try dsimp only at hSw); go_simp; (try with_reducible rfl))
  try simp only [Act.put, List.setIfInBounds_toArray, List.set_cons_zero, List.set_cons_succ]
  have hC := hCD.out
  have heD := heDD.out
  have fA := hC.fz A
  have e0 := (Joins.cell_of_block heD 0).trans rfl
  have e1 := (Joins.cell_of_block heD 1).trans rfl
  have e2 := (Joins.cell_of_block heD 2).trans rfl
  have k0 := frozen_of_row _ (w.heap.size + 1) 0 _ _ heD
  have k1 := frozen_of_row _ (w.heap.size + 1) 1 _ _ heD
  have k2 := frozen_of_row _ (w.heap.size + 1) 2 _ _ heD
  have hrb := reckN_rb 15 (hC.rb A) (hC.rb B)
  obtain ⟨hC2, hg2⟩ := hC.setR okP hA hrb
  have he2 := (hg2.block _ (by omega) (fun e => hne2 (Option.some.inj e))).trans heD
  obtain ⟨⟨z0, z1, z2⟩, hd⟩ := do_end he2 ((Moved.of_below hbdD.out).grown hg2 (fun j e => by cases e; exact hp.out)) (More.refl ks w) hC2 (by omega) hnq.out (.int .i64 0) (.int .i64 0) (.int .u32 0)
  clear hC heD hC2 hg2 he2 hCD heDD hHeld hHeld2 hrb
  refine wpAnyH_done (by kernel_rfl) ?_ _
  show Oper.wp _ _ _ _ _ _
  go_simp
  all_goals (go_wp2_with fail)
  refine bodyPost_ret (by simp [results, Tryd.results33, go_sem, z0, z1, z2]; try rfl) rfl ⟨rfl, hd⟩
set_option maxHeartbeats 8000000 in
theorem do_mul (h : CpuAt LP ks w p s) {A B : Nat} (hA : A < 8) (hB : B < 8) (n f word fr : Int) (mem : Value) :
    Calls Tryd.prog 33 #[.pointer (some ⟨p, 0, none⟩), instV 16 A B n f, .int .i32 word, mem, .int .i64 fr] w (Done LP ks w p { s with r := upd s.r A (reckN 16 (s.r A) (s.r B)) } (effV 0 0 0)) := by
  have hA' : (A : Int) < 8 := by omega
  have hB' : (B : Int) < 8 := by omega
  have hA0 : (0 : Int) ≤ (A : Int) := by omega
  have hB0 : (0 : Int) ≤ (B : Int) := by omega
  go_enter Tryd.func33, Tryd.ntmps33
  go_wp2
  obtain ⟨W1, hW1⟩ : ∃ W1, W1 = w.alloc (.cells #[.int .i64 16, .int .i64 A, .int .i64 B, .int .i32 n, .int .i64 f] 34) := ⟨_, rfl⟩
  rw [← hW1]
  obtain ⟨W0, hW0⟩ : ∃ W0, W0 = W1.alloc (.cells #[.int .i64 0, .int .i64 0, .int .u32 0] 40) := ⟨_, rfl⟩
  obtain ⟨hs1, hsD, hbd, hI, heD, hC⟩ := do_pre h 16 n f (A := A) hB hW1 hW0
  rw [← hW0]
  try rw [hs1]
  clear hW1 hW0 hs1
  have i0 := hI.o
  have i1 := hI.a
  have i2 := hI.b
  have i3 := hI.n
  have rB := hC.reg hB
  have rA := hC.reg hA
  have fA := hC.fz A
  have hlt := h.lt
  have hkl := Hid.intro h.kl
  have hp := Hid.intro h.kp
  clear h
  have hne : ¬ p = w.heap.size + 1 := by omega
  have hne2 : ¬ w.heap.size + 1 = p := by omega
  go_region_held3 (fun w' => w'.cell? ⟨w.heap.size, 1, none⟩ = some (.int .i64 A) ∧ w'.cell? ⟨w.heap.size, 2, none⟩ = some (.int .i64 B) ∧ w'.cell? ⟨p, B, none⟩ = some (.int .i32 (s.r B))) (exact ⟨i1, i2, rB⟩) (fail)
  generalize W0.drew = W at *
  replace hbd := Hid.intro hbd
  have hCH := Hid.intro hC
  have heH := Hid.intro heD
  have hnq : Hid (¬ ks (w.heap.size + 1)) := fun hk => by have := hkl.out _ hk; omega
  clear hI hC heD
  go_wp2
  have hCD := Hid.intro hCH.out.drew
  have heDD := Hid.intro (show W.drew.heap[w.heap.size + 1]? = _ from heH.out)
  have hbdD := Hid.intro hbd.out.drew
  have hsDD : W.drew.heap.size = w.heap.size + 2 := hsD
  refine wp_region_last (by kernel_rfl) 9 _ rfl rfl rfl (by kernel_rfl) (fun W' => W'.cell? ⟨w.heap.size, 0, none⟩ = some (.int .i64 16) ∧ W'.cell? ⟨p, A, none⟩ = some (.int .i32 (s.r A))) ⟨i0, rA⟩ (fun hHeld => ?_)
  simp only [List.setIfInBounds_toArray, List.set_cons_succ, List.set_cons_zero, noOp]
  clear i0 i1 i2 i3 rA rB fA hCH heH hbd hsD
  generalize W.drew = W2 at *
  obtain ⟨j0, rA⟩ := id hHeld
  refine wpAnyH_take (i := 0) (v := ?vm46) (by simp only [List.getElem?_toArray, List.getElem?_cons_succ, List.getElem?_cons_zero]; rfl) (by kernel_rfl) (by kernel_rfl) (by kernel_rfl) (by exact fun _ _ _ h => h) (Or.inl ⟨by rfl, ?ym46⟩) (by assumption) ?rm46
  case ym46 => (intro w hSw; (try dsimp only at hSw); go_simp; (try with_reducible rfl))
  try simp only [Act.put, List.setIfInBounds_toArray, List.set_cons_zero, List.set_cons_succ]
  refine wpAnyH_take (i := 1) (v := ?vm47) (by simp only [List.getElem?_toArray, List.getElem?_cons_succ, List.getElem?_cons_zero]; rfl) (by kernel_rfl) (by kernel_rfl) (by kernel_rfl) (by exact fun _ _ _ h => h) (Or.inl ⟨by rfl, ?ym47⟩) (by assumption) ?rm47
  case ym47 => (intro w hSw; (try dsimp only at hSw); go_simp; (try with_reducible rfl))
  try simp only [Act.put, List.setIfInBounds_toArray, List.set_cons_zero, List.set_cons_succ]
  refine wpAnyH_take (i := 2) (v := ?vm48) (by simp only [List.getElem?_toArray, List.getElem?_cons_succ, List.getElem?_cons_zero]; rfl) (by kernel_rfl) (by kernel_rfl) (by kernel_rfl) (by exact fun _ _ _ h => h) (Or.inl ⟨by rfl, ?ym48⟩) (by assumption) ?rm48
  case ym48 => (intro w hSw; (try dsimp only at hSw); go_simp; (try with_reducible rfl))
  try simp only [Act.put, List.setIfInBounds_toArray, List.set_cons_zero, List.set_cons_succ]
  refine wpAnyH_take (i := 3) (v := ?vm49) (by simp only [List.getElem?_toArray, List.getElem?_cons_succ, List.getElem?_cons_zero]; rfl) (by kernel_rfl) (by kernel_rfl) (by kernel_rfl) (by exact fun _ _ _ h => h) (Or.inl ⟨by rfl, ?ym49⟩) (by assumption) ?rm49
  case ym49 => (intro w hSw; (try dsimp only at hSw); go_simp; (try with_reducible rfl))
  try simp only [Act.put, List.setIfInBounds_toArray, List.set_cons_zero, List.set_cons_succ]
  refine wpAnyH_take (i := 4) (v := ?vm50) (by simp only [List.getElem?_toArray, List.getElem?_cons_succ, List.getElem?_cons_zero]; rfl) (by kernel_rfl) (by kernel_rfl) (by kernel_rfl) (by exact fun _ _ _ h => h) (Or.inl ⟨by rfl, ?ym50⟩) (by assumption) ?rm50
  case ym50 => (intro w hSw; (try dsimp only at hSw); go_simp; (try with_reducible rfl))
  try simp only [Act.put, List.setIfInBounds_toArray, List.set_cons_zero, List.set_cons_succ]
  refine wpAnyH_take (i := 5) (v := ?vm51) (by simp only [List.getElem?_toArray, List.getElem?_cons_succ, List.getElem?_cons_zero]; rfl) (by kernel_rfl) (by kernel_rfl) (by kernel_rfl) (by exact fun _ _ _ h => h) (Or.inl ⟨by rfl, ?ym51⟩) (by assumption) ?rm51
  case ym51 => (intro w hSw; (try dsimp only at hSw); go_simp; (try with_reducible rfl))
  try simp only [Act.put, List.setIfInBounds_toArray, List.set_cons_zero, List.set_cons_succ]
  refine wpAnyH_take (i := 6) (v := ?vm52) (by simp only [List.getElem?_toArray, List.getElem?_cons_succ, List.getElem?_cons_zero]; rfl) (by kernel_rfl) (by kernel_rfl) (by kernel_rfl) (by exact fun _ _ _ h => h) (Or.inl ⟨by rfl, ?ym52⟩) (by assumption) ?rm52
  case ym52 => (intro w hSw; (try dsimp only at hSw); go_simp; (try with_reducible rfl))
  try simp only [Act.put, List.setIfInBounds_toArray, List.set_cons_zero, List.set_cons_succ]
  refine wpAnyH_ready (rs := [7]) (by kernel_rfl) (by simp) (AllReadyH.cons (by simp only [List.getElem?_toArray, List.getElem?_cons_succ, List.getElem?_cons_zero]; rfl) (fun K hK => ?_) AllReadyH.nil)
  go_simp
  (go_at_call 49; (with_reducible refine (reck_any 16 _ _ (by unfold isReck; omega) _).mono ?_); rintro e w1 ⟨rfl, rfl⟩; try go_wp2_with fail)
  refine hK.out _ _ hHeld (fun hHeld2 => ?_)
  clear hK K
  try simp only [Act.put, List.setIfInBounds_toArray, List.set_cons_zero, List.set_cons_succ]
  refine wpAnyH_take (i := 8) (v := ?vm53) (by simp only [List.getElem?_toArray, List.getElem?_cons_succ, List.getElem?_cons_zero]; rfl) (by kernel_rfl) (by kernel_rfl) (by kernel_rfl) (by exact fun _ _ _ h => h) (Or.inl ⟨by rfl, ?ym53⟩) (by assumption) ?rm53
  case ym53 => (intro w hSw; (try dsimp only at hSw); go_simp; (try with_reducible rfl))
  try simp only [Act.put, List.setIfInBounds_toArray, List.set_cons_zero, List.set_cons_succ]
  refine wpAnyH_take (i := 9) (v := ?vm54) (by simp only [List.getElem?_toArray, List.getElem?_cons_succ, List.getElem?_cons_zero]; rfl) (by kernel_rfl) (by kernel_rfl) (by kernel_rfl) (by exact fun _ _ _ h => h) (Or.inl ⟨by rfl, ?ym54⟩) (by assumption) ?rm54
  case ym54 => (intro w hSw; (try dsimp only at hSw); go_simp; (try with_reducible rfl))
  try simp only [Act.put, List.setIfInBounds_toArray, List.set_cons_zero, List.set_cons_succ]
  have hC := hCD.out
  have heD := heDD.out
  have fA := hC.fz A
  have e0 := (Joins.cell_of_block heD 0).trans rfl
  have e1 := (Joins.cell_of_block heD 1).trans rfl
  have e2 := (Joins.cell_of_block heD 2).trans rfl
  have k0 := frozen_of_row _ (w.heap.size + 1) 0 _ _ heD
  have k1 := frozen_of_row _ (w.heap.size + 1) 1 _ _ heD
  have k2 := frozen_of_row _ (w.heap.size + 1) 2 _ _ heD
  have hrb := reckN_rb 16 (hC.rb A) (hC.rb B)
  obtain ⟨hC2, hg2⟩ := hC.setR okP hA hrb
  have he2 := (hg2.block _ (by omega) (fun e => hne2 (Option.some.inj e))).trans heD
  obtain ⟨⟨z0, z1, z2⟩, hd⟩ := do_end he2 ((Moved.of_below hbdD.out).grown hg2 (fun j e => by cases e; exact hp.out)) (More.refl ks w) hC2 (by omega) hnq.out (.int .i64 0) (.int .i64 0) (.int .u32 0)
  clear hC heD hC2 hg2 he2 hCD heDD hHeld hHeld2 hrb
  refine wpAnyH_done (by kernel_rfl) ?_ _
  show Oper.wp _ _ _ _ _ _
  go_simp
  all_goals (go_wp2_with fail)
  refine bodyPost_ret (by simp [results, Tryd.results33, go_sem, z0, z1, z2]; try rfl) rfl ⟨rfl, hd⟩
end
end Go.Proofs.YtlchefdddgbohaaDoor
