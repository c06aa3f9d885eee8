/- cpu.do: what is reckoned. -/
import Derived.Test.YtlchefdddgbohaaDoorCl
import Derived.Test.YtlchefdddgbohaaDoorRgL
import Derived.Test.YtlchefdddgbohaaDoorDoR
namespace Go.Proofs.YtlchefdddgbohaaDoor
open Go.ChangeShapes Go.WideShapes Go.ChangeAt Go.RowKit
set_option linter.unusedVariables false
set_option linter.unusedSimpArgs false
set_option maxRecDepth 100000
section
variable {ks : Nat → Prop} {w : World} {p : Nat} {s : St}
set_option maxHeartbeats 8000000 in
theorem do_land (h : CpuAt LP ks w p s) {A B : Nat} (hA : A < 8) (hB : B < 8) (n f word fr : Int) (mem : Value) :
    Calls Tryd.prog 33 #[.pointer (some ⟨p, 0, none⟩), instV 18 A B n f, .int .i32 word, mem, .int .i64 fr] w (Done LP ks w p { s with r := upd s.r A (reckN 18 (s.r A) (s.r B)) } (effV 0 0 0)) := by
  have hA' : (A : Int) < 8 := by omega
  have hB' : (B : Int) < 8 := by omega
  have hA0 : (0 : Int) ≤ (A : Int) := by omega
  have hB0 : (0 : Int) ≤ (B : Int) := by omega
  go_enter Tryd.func33, Tryd.ntmps33
  go_wp2
  obtain ⟨W1, hW1⟩ : ∃ W1, W1 = w.alloc (.cells #[.int .i64 18, .int .i64 A, .int .i64 B, .int .i32 n, .int .i64 f] 34) := ⟨_, rfl⟩
  rw [← hW1]
  obtain ⟨W0, hW0⟩ : ∃ W0, W0 = W1.alloc (.cells #[.int .i64 0, .int .i64 0, .int .u32 0] 40) := ⟨_, rfl⟩
  obtain ⟨hs1, hsD, hbd, hI, heD, hC⟩ := do_pre h 18 n f (A := A) hB hW1 hW0
  rw [← hW0]
  try rw [hs1]
  clear hW1 hW0 hs1
  have i0 := hI.o
  have i1 := hI.a
  have i2 := hI.b
  have i3 := hI.n
  have rB := hC.reg hB
  have rA := hC.reg hA
  have fA := hC.fz A
  have hlt := h.lt
  have hkl := Hid.intro h.kl
  have hp := Hid.intro h.kp
  clear h
  have hne : ¬ p = w.heap.size + 1 := by omega
  have hne2 : ¬ w.heap.size + 1 = p := by omega
  go_region_held3 (fun w' => w'.cell? ⟨w.heap.size, 1, none⟩ = some (.int .i64 A) ∧ w'.cell? ⟨w.heap.size, 2, none⟩ = some (.int .i64 B) ∧ w'.cell? ⟨p, B, none⟩ = some (.int .i32 (s.r B))) (exact ⟨i1, i2, rB⟩) (fail)
  generalize W0.drew = W at *
  replace hbd := Hid.intro hbd
  have hCH := Hid.intro hC
  have heH := Hid.intro heD
  have hnq : Hid (¬ ks (w.heap.size + 1)) := fun hk => by have := hkl.out _ hk; omega
  clear hI hC heD
  go_wp2
  have hCD := Hid.intro hCH.out.drew
  have heDD := Hid.intro (show W.drew.heap[w.heap.size + 1]? = _ from heH.out)
  have hbdD := Hid.intro hbd.out.drew
  have hsDD : W.drew.heap.size = w.heap.size + 2 := hsD
  refine wp_region_last (by kernel_rfl) 9 _ rfl rfl rfl (by kernel_rfl) (fun W' => W'.cell? ⟨w.heap.size, 0, none⟩ = some (.int .i64 18) ∧ W'.cell? ⟨p, A, none⟩ = some (.int .i32 (s.r A))) ⟨i0, rA⟩ (fun hHeld => ?_)
  simp only [List.setIfInBounds_toArray, List.set_cons_succ, List.set_cons_zero, noOp]
  clear i0 i1 i2 i3 rA rB fA hCH heH hbd hsD
  generalize W.drew = W2 at *
  obtain ⟨j0, rA⟩ := id hHeld
  refine wpAnyH_take (i := 0) (v := ?vm55) (by simp only [List.getElem?_toArray, List.getElem?_cons_succ, List.getElem?_cons_zero]; rfl) (by kernel_rfl) (by kernel_rfl) (by kernel_rfl) (by exact fun _ _ _ h => h) (Or.inl ⟨by rfl, ?ym55⟩) (by assumption) ?rm55
  case ym55 => (intro w hSw; (try dsimp only at hSw); go_simp; (try with_reducible rfl))
  try simp only [Act.put, List.setIfInBounds_toArray, List.set_cons_zero, List.set_cons_succ]
  refine wpAnyH_take (i := 1) (v := ?vm56) (by simp only [List.getElem?_toArray, List.getElem?_cons_succ, List.getElem?_cons_zero]; rfl) (by kernel_rfl) (by kernel_rfl) (by kernel_rfl) (by exact fun _ _ _ h => h) (Or.inl ⟨by rfl, ?ym56⟩) (by assumption) ?rm56
  case ym56 => (intro w hSw; (try dsimp only at hSw); go_simp; (try with_reducible rfl))
  try simp only [Act.put, List.setIfInBounds_toArray, List.set_cons_zero, List.set_cons_succ]
  refine wpAnyH_take (i := 2) (v := ?vm57) (by simp only [List.getElem?_toArray, List.getElem?_cons_succ, List.getElem?_cons_zero]; rfl) (by kernel_rfl) (by kernel_rfl) (by kernel_rfl) (by exact fun _ _ _ h => h) (Or.inl ⟨by rfl, ?ym57⟩) (by assumption) ?rm57
  case ym57 => (intro w hSw; (try dsimp only at hSw); go_simp; (try with_reducible rfl))
  try simp only [Act.put, List.setIfInBounds_toArray, List.set_cons_zero, List.set_cons_succ]
  refine wpAnyH_take (i := 3) (v := ?vm58) (by simp only [List.getElem?_toArray, List.getElem?_cons_succ, List.getElem?_cons_zero]; rfl) (by kernel_rfl) (by kernel_rfl) (by kernel_rfl) (by exact fun _ _ _ h => h) (Or.inl ⟨by rfl, ?ym58⟩) (by assumption) ?rm58
  case ym58 => (intro w hSw; (try dsimp only at hSw); go_simp; (try with_reducible rfl))
  try simp only [Act.put, List.setIfInBounds_toArray, List.set_cons_zero, List.set_cons_succ]
  refine wpAnyH_take (i := 4) (v := ?vm59) (by simp only [List.getElem?_toArray, List.getElem?_cons_succ, List.getElem?_cons_zero]; rfl) (by kernel_rfl) (by kernel_rfl) (by kernel_rfl) (by exact fun _ _ _ h => h) (Or.inl ⟨by rfl, ?ym59⟩) (by assumption) ?rm59
  case ym59 => (intro w hSw; (try dsimp only at hSw); go_simp; (try with_reducible rfl))
  try simp only [Act.put, List.setIfInBounds_toArray, List.set_cons_zero, List.set_cons_succ]
  refine wpAnyH_take (i := 5) (v := ?vm60) (by simp only [List.getElem?_toArray, List.getElem?_cons_succ, List.getElem?_cons_zero]; rfl) (by kernel_rfl) (by kernel_rfl) (by kernel_rfl) (by exact fun _ _ _ h => h) (Or.inl ⟨by rfl, ?ym60⟩) (by assumption) ?rm60
  case ym60 => (intro w hSw; (try dsimp only at hSw); go_simp; (try with_reducible rfl))
  try simp only [Act.put, List.setIfInBounds_toArray, List.set_cons_zero, List.set_cons_succ]
  refine wpAnyH_take (i := 6) (v := ?vm61) (by simp only [List.getElem?_toArray, List.getElem?_cons_succ, List.getElem?_cons_zero]; rfl) (by kernel_rfl) (by kernel_rfl) (by kernel_rfl) (by exact fun _ _ _ h => h) (Or.inl ⟨by rfl, ?ym61⟩) (by assumption) ?rm61
  case ym61 => (intro w hSw; (try dsimp only at hSw); go_simp; (try with_reducible rfl))
  try simp only [Act.put, List.setIfInBounds_toArray, List.set_cons_zero, List.set_cons_succ]
  refine wpAnyH_ready (rs := [7]) (by kernel_rfl) (by simp) (AllReadyH.cons (by simp only [List.getElem?_toArray, List.getElem?_cons_succ, List.getElem?_cons_zero]; rfl) (fun K hK => ?_) AllReadyH.nil)
  go_simp
  (go_at_call 49; (with_reducible refine (reck_any 18 _ _ (by unfold isReck; omega) _).mono ?_); rintro e w1 ⟨rfl, rfl⟩; try go_wp2_with fail)
  refine hK.out _ _ hHeld (fun hHeld2 => ?_)
  clear hK K
  try simp only [Act.put, List.setIfInBounds_toArray, List.set_cons_zero, List.set_cons_succ]
  refine wpAnyH_take (i := 8) (v := ?vm62) (by simp only [List.getElem?_toArray, List.getElem?_cons_succ, List.getElem?_cons_zero]; rfl) (by kernel_rfl) (by kernel_rfl) (by kernel_rfl) (by exact fun _ _ _ h => h) (Or.inl ⟨by rfl, ?ym62⟩) (by assumption) ?rm62
  case ym62 => (intro w hSw; (try dsimp only at hSw); go_simp; (try with_reducible rfl))
  try simp only [Act.put, List.setIfInBounds_toArray, List.set_cons_zero, List.set_cons_succ]
  refine wpAnyH_take (i := 9) (v := ?vm63) (by simp only [List.getElem?_toArray, List.getElem?_cons_succ, List.getElem?_cons_zero]; rfl) (by kernel_rfl) (by kernel_rfl) (by kernel_rfl) (by exact fun _ _ _ h => h) (Or.inl ⟨by rfl, ?ym63⟩) (by assumption) ?rm63
  case ym63 => (intro w hSw; (try dsimp only at hSw); go_simp; (try with_reducible rfl))
  try simp only [Act.put, List.setIfInBounds_toArray, List.set_cons_zero, List.set_cons_succ]
  have hC := hCD.out
  have heD := heDD.out
  have fA := hC.fz A
  have e0 := (Joins.cell_of_block heD 0).trans rfl
  have e1 := (Joins.cell_of_block heD 1).trans rfl
  have e2 := (Joins.cell_of_block heD 2).trans rfl
  have k0 := frozen_of_row _ (w.heap.size + 1) 0 _ _ heD
  have k1 := frozen_of_row _ (w.heap.size + 1) 1 _ _ heD
  have k2 := frozen_of_row _ (w.heap.size + 1) 2 _ _ heD
  have hrb := reckN_rb 18 (hC.rb A) (hC.rb B)
  obtain ⟨hC2, hg2⟩ := hC.setR okP hA hrb
  have he2 := (hg2.block _ (by omega) (fun e => hne2 (Option.some.inj e))).trans heD
  obtain ⟨⟨z0, z1, z2⟩, hd⟩ := do_end he2 ((Moved.of_below hbdD.out).grown hg2 (fun j e => by cases e; exact hp.out)) (More.refl ks w) hC2 (by omega) hnq.out (.int .i64 0) (.int .i64 0) (.int .u32 0)
  clear hC heD hC2 hg2 he2 hCD heDD hHeld hHeld2 hrb
  refine wpAnyH_done (by kernel_rfl) ?_ _
  show Oper.wp _ _ _ _ _ _
  go_simp
  all_goals (go_wp2_with fail)
  refine bodyPost_ret (by simp [results, Tryd.results33, go_sem, z0, z1, z2]; try rfl) rfl ⟨rfl, hd⟩
set_option maxHeartbeats 8000000 in
theorem do_lor (h : CpuAt LP ks w p s) {A B : Nat} (hA : A < 8) (hB : B < 8) (n f word fr : Int) (mem : Value) :
    Calls Tryd.prog 33 #[.pointer (some ⟨p, 0, none⟩), instV 19 A B n f, .int .i32 word, mem, .int .i64 fr] w (Done LP ks w p { s with r := upd s.r A (reckN 19 (s.r A) (s.r B)) } (effV 0 0 0)) := by
  have hA' : (A : Int) < 8 := by omega
  have hB' : (B : Int) < 8 := by omega
  have hA0 : (0 : Int) ≤ (A : Int) := by omega
  have hB0 : (0 : Int) ≤ (B : Int) := by omega
  go_enter Tryd.func33, Tryd.ntmps33
  go_wp2
  obtain ⟨W1, hW1⟩ : ∃ W1, W1 = w.alloc (.cells #[.int .i64 19, .int .i64 A, .int .i64 B, .int .i32 n, .int .i64 f] 34) := ⟨_, rfl⟩
  rw [← hW1]
  obtain ⟨W0, hW0⟩ : ∃ W0, W0 = W1.alloc (.cells #[.int .i64 0, .int .i64 0, .int .u32 0] 40) := ⟨_, rfl⟩
  obtain ⟨hs1, hsD, hbd, hI, heD, hC⟩ := do_pre h 19 n f (A := A) hB hW1 hW0
  rw [← hW0]
  try rw [hs1]
  clear hW1 hW0 hs1
  have i0 := hI.o
  have i1 := hI.a
  have i2 := hI.b
  have i3 := hI.n
  have rB := hC.reg hB
  have rA := hC.reg hA
  have fA := hC.fz A
  have hlt := h.lt
  have hkl := Hid.intro h.kl
  have hp := Hid.intro h.kp
  clear h
  have hne : ¬ p = w.heap.size + 1 := by omega
  have hne2 : ¬ w.heap.size + 1 = p := by omega
  go_region_held3 (fun w' => w'.cell? ⟨w.heap.size, 1, none⟩ = some (.int .i64 A) ∧ w'.cell? ⟨w.heap.size, 2, none⟩ = some (.int .i64 B) ∧ w'.cell? ⟨p, B, none⟩ = some (.int .i32 (s.r B))) (exact ⟨i1, i2, rB⟩) (fail)
  generalize W0.drew = W at *
  replace hbd := Hid.intro hbd
  have hCH := Hid.intro hC
  have heH := Hid.intro heD
  have hnq : Hid (¬ ks (w.heap.size + 1)) := fun hk => by have := hkl.out _ hk; omega
  clear hI hC heD
  go_wp2
  have hCD := Hid.intro hCH.out.drew
  have heDD := Hid.intro (show W.drew.heap[w.heap.size + 1]? = _ from heH.out)
  have hbdD := Hid.intro hbd.out.drew
  have hsDD : W.drew.heap.size = w.heap.size + 2 := hsD
  refine wp_region_last (by kernel_rfl) 9 _ rfl rfl rfl (by kernel_rfl) (fun W' => W'.cell? ⟨w.heap.size, 0, none⟩ = some (.int .i64 19) ∧ W'.cell? ⟨p, A, none⟩ = some (.int .i32 (s.r A))) ⟨i0, rA⟩ (fun hHeld => ?_)
  simp only [List.setIfInBounds_toArray, List.set_cons_succ, List.set_cons_zero, noOp]
  clear i0 i1 i2 i3 rA rB fA hCH heH hbd hsD
  generalize W.drew = W2 at *
  obtain ⟨j0, rA⟩ := id hHeld
  refine wpAnyH_take (i := 0) (v := ?vm64) (by simp only [List.getElem?_toArray, List.getElem?_cons_succ, List.getElem?_cons_zero]; rfl) (by kernel_rfl) (by kernel_rfl) (by kernel_rfl) (by exact fun _ _ _ h => h) (Or.inl ⟨by rfl, ?ym64⟩) (by assumption) ?rm64
  case ym64 => (intro w hSw; (try dsimp only at hSw); go_simp; (try with_reducible rfl))
  try simp only [Act.put, List.setIfInBounds_toArray, List.set_cons_zero, List.set_cons_succ]
  refine wpAnyH_take (i := 1) (v := ?vm65) (by simp only [List.getElem?_toArray, List.getElem?_cons_succ, List.getElem?_cons_zero]; rfl) (by kernel_rfl) (by kernel_rfl) (by kernel_rfl) (by exact fun _ _ _ h => h) (Or.inl ⟨by rfl, ?ym65⟩) (by assumption) ?rm65
  case ym65 => (intro w hSw; (try dsimp only at hSw); go_simp; (try with_reducible rfl))
  try simp only [Act.put, List.setIfInBounds_toArray, List.set_cons_zero, List.set_cons_succ]
  refine wpAnyH_take (i := 2) (v := ?vm66) (by simp only [List.getElem?_toArray, List.getElem?_cons_succ, List.getElem?_cons_zero]; rfl) (by kernel_rfl) (by kernel_rfl) (by kernel_rfl) (by exact fun _ _ _ h => h) (Or.inl ⟨by rfl, ?ym66⟩) (by assumption) ?rm66
  case ym66 => (intro w hSw; (try dsimp only at hSw); go_simp; (try with_reducible rfl))
  try simp only [Act.put, List.setIfInBounds_toArray, List.set_cons_zero, List.set_cons_succ]
  refine wpAnyH_take (i := 3) (v := ?vm67) (by simp only [List.getElem?_toArray, List.getElem?_cons_succ, List.getElem?_cons_zero]; rfl) (by kernel_rfl) (by kernel_rfl) (by kernel_rfl) (by exact fun _ _ _ h => h) (Or.inl ⟨by rfl, ?ym67⟩) (by assumption) ?rm67
  case ym67 => (intro w hSw; (try dsimp only at hSw); go_simp; (try with_reducible rfl))
  try simp only [Act.put, List.setIfInBounds_toArray, List.set_cons_zero, List.set_cons_succ]
  refine wpAnyH_take (i := 4) (v := ?vm68) (by simp only [List.getElem?_toArray, List.getElem?_cons_succ, List.getElem?_cons_zero]; rfl) (by kernel_rfl) (by kernel_rfl) (by kernel_rfl) (by exact fun _ _ _ h => h) (Or.inl ⟨by rfl, ?ym68⟩) (by assumption) ?rm68
  case ym68 => (intro w hSw; (try dsimp only at hSw); go_simp; (try with_reducible rfl))
  try simp only [Act.put, List.setIfInBounds_toArray, List.set_cons_zero, List.set_cons_succ]
  refine wpAnyH_take (i := 5) (v := ?vm69) (by simp only [List.getElem?_toArray, List.getElem?_cons_succ, List.getElem?_cons_zero]; rfl) (by kernel_rfl) (by kernel_rfl) (by kernel_rfl) (by exact fun _ _ _ h => h) (Or.inl ⟨by rfl, ?ym69⟩) (by assumption) ?rm69
  case ym69 => (intro w hSw; (try dsimp only at hSw); go_simp; (try with_reducible rfl))
  try simp only [Act.put, List.setIfInBounds_toArray, List.set_cons_zero, List.set_cons_succ]
  refine wpAnyH_take (i := 6) (v := ?vm70) (by simp only [List.getElem?_toArray, List.getElem?_cons_succ, List.getElem?_cons_zero]; rfl) (by kernel_rfl) (by kernel_rfl) (by kernel_rfl) (by exact fun _ _ _ h => h) (Or.inl ⟨by rfl, ?ym70⟩) (by assumption) ?rm70
  case ym70 => (intro w hSw; (try dsimp only at hSw); go_simp; (try with_reducible rfl))
  try simp only [Act.put, List.setIfInBounds_toArray, List.set_cons_zero, List.set_cons_succ]
  refine wpAnyH_ready (rs := [7]) (by kernel_rfl) (by simp) (AllReadyH.cons (by simp only [List.getElem?_toArray, List.getElem?_cons_succ, List.getElem?_cons_zero]; rfl) (fun K hK => ?_) AllReadyH.nil)
  go_simp
  (go_at_call 49; (with_reducible refine (reck_any 19 _ _ (by unfold isReck; omega) _).mono ?_); rintro e w1 ⟨rfl, rfl⟩; try go_wp2_with fail)
  refine hK.out _ _ hHeld (fun hHeld2 => ?_)
  clear hK K
  try simp only [Act.put, List.setIfInBounds_toArray, List.set_cons_zero, List.set_cons_succ]
  refine wpAnyH_take (i := 8) (v := ?vm71) (by simp only [List.getElem?_toArray, List.getElem?_cons_succ, List.getElem?_cons_zero]; rfl) (by kernel_rfl) (by kernel_rfl) (by kernel_rfl) (by exact fun _ _ _ h => h) (Or.inl ⟨by rfl, ?ym71⟩) (by assumption) ?rm71
  case ym71 => (intro w hSw; (try dsimp only at hSw); go_simp; (try with_reducible rfl))
  try simp only [Act.put, List.setIfInBounds_toArray, List.set_cons_zero, List.set_cons_succ]
  refine wpAnyH_take (i := 9) (v := ?vm72) (by simp only [List.getElem?_toArray, List.getElem?_cons_succ, List.getElem?_cons_zero]; rfl) (by kernel_rfl) (by kernel_rfl) (by kernel_rfl) (by exact fun _ _ _ h => h) (Or.inl ⟨by rfl, ?ym72⟩) (by assumption) ?rm72
  case ym72 => (intro w hSw; (try dsimp only at hSw); go_simp; (try with_reducible rfl))
  try simp only [Act.put, List.setIfInBounds_toArray, List.set_cons_zero, List.set_cons_succ]
  have hC := hCD.out
  have heD := heDD.out
  have fA := hC.fz A
  have e0 := (Joins.cell_of_block heD 0).trans rfl
  have e1 := (Joins.cell_of_block heD 1).trans rfl
  have e2 := (Joins.cell_of_block heD 2).trans rfl
  have k0 := frozen_of_row _ (w.heap.size + 1) 0 _ _ heD
  have k1 := frozen_of_row _ (w.heap.size + 1) 1 _ _ heD
  have k2 := frozen_of_row _ (w.heap.size + 1) 2 _ _ heD
  have hrb := reckN_rb 19 (hC.rb A) (hC.rb B)
  obtain ⟨hC2, hg2⟩ := hC.setR okP hA hrb
  have he2 := (hg2.block _ (by omega) (fun e => hne2 (Option.some.inj e))).trans heD
  obtain ⟨⟨z0, z1, z2⟩, hd⟩ := do_end he2 ((Moved.of_below hbdD.out).grown hg2 (fun j e => by cases e; exact hp.out)) (More.refl ks w) hC2 (by omega) hnq.out (.int .i64 0) (.int .i64 0) (.int .u32 0)
  clear hC heD hC2 hg2 he2 hCD heDD hHeld hHeld2 hrb
  refine wpAnyH_done (by kernel_rfl) ?_ _
  show Oper.wp _ _ _ _ _ _
  go_simp
  all_goals (go_wp2_with fail)
  refine bodyPost_ret (by simp [results, Tryd.results33, go_sem, z0, z1, z2]; try rfl) rfl ⟨rfl, hd⟩
set_option maxHeartbeats 8000000 in
theorem do_xor (h : CpuAt LP ks w p s) {A B : Nat} (hA : A < 8) (hB : B < 8) (n f word fr : Int) (mem : Value) :
    Calls Tryd.prog 33 #[.pointer (some ⟨p, 0, none⟩), instV 20 A B n f, .int .i32 word, mem, .int .i64 fr] w (Done LP ks w p { s with r := upd s.r A (reckN 20 (s.r A) (s.r B)) } (effV 0 0 0)) := by
  have hA' : (A : Int) < 8 := by omega
  have hB' : (B : Int) < 8 := by omega
  have hA0 : (0 : Int) ≤ (A : Int) := by omega
  have hB0 : (0 : Int) ≤ (B : Int) := by omega
  go_enter Tryd.func33, Tryd.ntmps33
  go_wp2
  obtain ⟨W1, hW1⟩ : ∃ W1, W1 = w.alloc (.cells #[.int .i64 20, .int .i64 A, .int .i64 B, .int .i32 n, .int .i64 f] 34) := ⟨_, rfl⟩
  rw [← hW1]
  obtain ⟨W0, hW0⟩ : ∃ W0, W0 = W1.alloc (.cells #[.int .i64 0, .int .i64 0, .int .u32 0] 40) := ⟨_, rfl⟩
  obtain ⟨hs1, hsD, hbd, hI, heD, hC⟩ := do_pre h 20 n f (A := A) hB hW1 hW0
  rw [← hW0]
  try rw [hs1]
  clear hW1 hW0 hs1
  have i0 := hI.o
  have i1 := hI.a
  have i2 := hI.b
  have i3 := hI.n
  have rB := hC.reg hB
  have rA := hC.reg hA
  have fA := hC.fz A
  have hlt := h.lt
  have hkl := Hid.intro h.kl
  have hp := Hid.intro h.kp
  clear h
  have hne : ¬ p = w.heap.size + 1 := by omega
  have hne2 : ¬ w.heap.size + 1 = p := by omega
  go_region_held3 (fun w' => w'.cell? ⟨w.heap.size, 1, none⟩ = some (.int .i64 A) ∧ w'.cell? ⟨w.heap.size, 2, none⟩ = some (.int .i64 B) ∧ w'.cell? ⟨p, B, none⟩ = some (.int .i32 (s.r B))) (exact ⟨i1, i2, rB⟩) (fail)
  generalize W0.drew = W at *
  replace hbd := Hid.intro hbd
  have hCH := Hid.intro hC
  have heH := Hid.intro heD
  have hnq : Hid (¬ ks (w.heap.size + 1)) := fun hk => by have := hkl.out _ hk; omega
  clear hI hC heD
  go_wp2
  have hCD := Hid.intro hCH.out.drew
  have heDD := Hid.intro (show W.drew.heap[w.heap.size + 1]? = _ from heH.out)
  have hbdD := Hid.intro hbd.out.drew
  have hsDD : W.drew.heap.size = w.heap.size + 2 := hsD
  refine wp_region_last (by kernel_rfl) 9 _ rfl rfl rfl (by kernel_rfl) (fun W' => W'.cell? ⟨w.heap.size, 0, none⟩ = some (.int .i64 20) ∧ W'.cell? ⟨p, A, none⟩ = some (.int .i32 (s.r A))) ⟨i0, rA⟩ (fun hHeld => ?_)
  simp only [List.setIfInBounds_toArray, List.set_cons_succ, List.set_cons_zero, noOp]
  clear i0 i1 i2 i3 rA rB fA hCH heH hbd hsD
  generalize W.drew = W2 at *
  obtain ⟨j0, rA⟩ := id hHeld
  refine wpAnyH_take (i := 0) (v := ?vm73) (by simp only [List.getElem?_toArray, List.getElem?_cons_succ, List.getElem?_cons_zero]; rfl) (by kernel_rfl) (by kernel_rfl) (by kernel_rfl) (by exact fun _ _ _ h => h) (Or.inl ⟨by rfl, ?ym73⟩) (by assumption) ?rm73
  case ym73 => (intro w hSw; (try dsimp only at hSw); go_simp; (try with_reducible rfl))
  try simp only [Act.put, List.setIfInBounds_toArray, List.set_cons_zero, List.set_cons_succ]
  refine wpAnyH_take (i := 1) (v := ?vm74) (by simp only [List.getElem?_toArray, List.getElem?_cons_succ, List.getElem?_cons_zero]; rfl) (by kernel_rfl) (by kernel_rfl) (by kernel_rfl) (by exact fun _ _ _ h => h) (Or.inl ⟨by rfl, ?ym74⟩) (by assumption) ?rm74
  case ym74 => (intro w hSw; (try dsimp only at hSw); go_simp; (try with_reducible rfl))
  try simp only [Act.put, List.setIfInBounds_toArray, List.set_cons_zero, List.set_cons_succ]
  refine wpAnyH_take (i := 2) (v := ?vm75) (by simp only [List.getElem?_toArray, List.getElem?_cons_succ, List.getElem?_cons_zero]; rfl) (by kernel_rfl) (by kernel_rfl) (by kernel_rfl) (by exact fun _ _ _ h => h) (Or.inl ⟨by rfl, ?ym75⟩) (by assumption) ?rm75
  case ym75 => (intro w hSw; (try dsimp only at hSw); go_simp; (try with_reducible rfl))
  try simp only [Act.put, List.setIfInBounds_toArray, List.set_cons_zero, List.set_cons_succ]
  refine wpAnyH_take (i := 3) (v := ?vm76) (by simp only [List.getElem?_toArray, List.getElem?_cons_succ, List.getElem?_cons_zero]; rfl) (by kernel_rfl) (by kernel_rfl) (by kernel_rfl) (by exact fun _ _ _ h => h) (Or.inl ⟨by rfl, ?ym76⟩) (by assumption) ?rm76
  case ym76 => (intro w hSw; (try dsimp only at hSw); go_simp; (try with_reducible rfl))
  try simp only [Act.put, List.setIfInBounds_toArray, List.set_cons_zero, List.set_cons_succ]
  refine wpAnyH_take (i := 4) (v := ?vm77) (by simp only [List.getElem?_toArray, List.getElem?_cons_succ, List.getElem?_cons_zero]; rfl) (by kernel_rfl) (by kernel_rfl) (by kernel_rfl) (by exact fun _ _ _ h => h) (Or.inl ⟨by rfl, ?ym77⟩) (by assumption) ?rm77
  case ym77 => (intro w hSw; (try dsimp only at hSw); go_simp; (try with_reducible rfl))
  try simp only [Act.put, List.setIfInBounds_toArray, List.set_cons_zero, List.set_cons_succ]
  refine wpAnyH_take (i := 5) (v := ?vm78) (by simp only [List.getElem?_toArray, List.getElem?_cons_succ, List.getElem?_cons_zero]; rfl) (by kernel_rfl) (by kernel_rfl) (by kernel_rfl) (by exact fun _ _ _ h => h) (Or.inl ⟨by rfl, ?ym78⟩) (by assumption) ?rm78
  case ym78 => (intro w hSw; (try dsimp only at hSw); go_simp; (try with_reducible rfl))
  try simp only [Act.put, List.setIfInBounds_toArray, List.set_cons_zero, List.set_cons_succ]
  refine wpAnyH_take (i := 6) (v := ?vm79) (by simp only [List.getElem?_toArray, List.getElem?_cons_succ, List.getElem?_cons_zero]; rfl) (by kernel_rfl) (by kernel_rfl) (by kernel_rfl) (by exact fun _ _ _ h => h) (Or.inl ⟨by rfl, ?ym79⟩) (by assumption) ?rm79
  case ym79 => (intro w hSw; (try dsimp only at hSw); go_simp; (try with_reducible rfl))
  try simp only [Act.put, List.setIfInBounds_toArray, List.set_cons_zero, List.set_cons_succ]
  refine wpAnyH_ready (rs := [7]) (by kernel_rfl) (by simp) (AllReadyH.cons (by simp only [List.getElem?_toArray, List.getElem?_cons_succ, List.getElem?_cons_zero]; rfl) (fun K hK => ?_) AllReadyH.nil)
  go_simp
  (go_at_call 49; (with_reducible refine (reck_any 20 _ _ (by unfold isReck; omega) _).mono ?_); rintro e w1 ⟨rfl, rfl⟩; try go_wp2_with fail)
  refine hK.out _ _ hHeld (fun hHeld2 => ?_)
  clear hK K
  try simp only [Act.put, List.setIfInBounds_toArray, List.set_cons_zero, List.set_cons_succ]
  refine wpAnyH_take (i := 8) (v := ?vm80) (by simp only [List.getElem?_toArray, List.getElem?_cons_succ, List.getElem?_cons_zero]; rfl) (by kernel_rfl) (by kernel_rfl) (by kernel_rfl) (by exact fun _ _ _ h => h) (Or.inl ⟨by rfl, ?ym80⟩) (by assumption) ?rm80
  case ym80 => (intro w hSw; (try dsimp only at hSw); go_simp; (try with_reducible rfl))
  try simp only [Act.put, List.setIfInBounds_toArray, List.set_cons_zero, List.set_cons_succ]
  refine wpAnyH_take (i := 9) (v := ?vm81) (by simp only [List.getElem?_toArray, List.getElem?_cons_succ, List.getElem?_cons_zero]; rfl) (by kernel_rfl) (by kernel_rfl) (by kernel_rfl) (by exact fun _ _ _ h => h) (Or.inl ⟨by rfl, ?ym81⟩) (by assumption) ?rm81
  case ym81 => (intro w hSw; (try dsimp only at hSw); go_simp; (try with_reducible rfl))
  try simp only [Act.put, List.setIfInBounds_toArray, List.set_cons_zero, List.set_cons_succ]
  have hC := hCD.out
  have heD := heDD.out
  have fA := hC.fz A
  have e0 := (Joins.cell_of_block heD 0).trans rfl
  have e1 := (Joins.cell_of_block heD 1).trans rfl
  have e2 := (Joins.cell_of_block heD 2).trans rfl
  have k0 := frozen_of_row _ (w.heap.size + 1) 0 _ _ heD
  have k1 := frozen_of_row _ (w.heap.size + 1) 1 _ _ heD
  have k2 := frozen_of_row _ (w.heap.size + 1) 2 _ _ heD
  have hrb := reckN_rb 20 (hC.rb A) (hC.rb B)
  obtain ⟨hC2, hg2⟩ := hC.setR okP hA hrb
  have he2 := (hg2.block _ (by omega) (fun e => hne2 (Option.some.inj e))).trans heD
  obtain ⟨⟨z0, z1, z2⟩, hd⟩ := do_end he2 ((Moved.of_below hbdD.out).grown hg2 (fun j e => by cases e; exact hp.out)) (More.refl ks w) hC2 (by omega) hnq.out (.int .i64 0) (.int .i64 0) (.int .u32 0)
  clear hC heD hC2 hg2 he2 hCD heDD hHeld hHeld2 hrb
  refine wpAnyH_done (by kernel_rfl) ?_ _
  show Oper.wp _ _ _ _ _ _
  go_simp
  all_goals (go_wp2_with fail)
  refine bodyPost_ret (by simp [results, Tryd.results33, go_sem, z0, z1, z2]; try rfl) rfl ⟨rfl, hd⟩
end
end Go.Proofs.YtlchefdddgbohaaDoor
