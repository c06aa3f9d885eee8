/- The law IsaLengths, walked. -/
import Derived.Test.YtnlbfhjalnlngabDoorQuietB
namespace Go.Proofs.YtnlbfhjalnlngabDoor
open Go.ChangeShapes Go.WideShapes Go.ChangeAt Go.RowKit
set_option linter.unusedVariables false
set_option maxRecDepth 100000

theorem chain2 {w w1 w2 : World} (a : Below w.heap.size w w1) (b : Below w1.heap.size w1 w2) : Below w.heap.size w w2 := a.trans (b.mono a.size)

theorem size_all : ∀ j : Fin 14, (1 ≤ j.1 → 1 ≤ sizeAt j.1) ∧ sizeAt j.1 ≤ 6 ∧ (spansB (j.1 : Int) = true → sizeAt j.1 ≤ 2) := by decide +kernel

theorem num_form {n f : Int} {s : Nat} (h : numB n f s = true) : (spansB (s : Int) = true ∧ fitsB n f = true) ∨ (spansB (s : Int) = false ∧ f = 0) := by
  unfold numB at h
  cases hs : spansB (s : Int) with
  | true => rw [hs] at h; exact .inl ⟨rfl, by simpa using h⟩
  | false => rw [hs] at h; simp at h; exact .inr ⟨rfl, h.1⟩

/-- what a right instruction's length and form are -/
theorem right_len {op a b n f : Int} (h : checkN op a b n f = 0) : 1 ≤ lenN op a b n f ∧ lenN op a b n f ≤ 6 ∧ spansB (shapeN op) = decide (f > 0) ∧ (f = 0 ∨ f = 1 ∨ f = 2 ∨ f = 4) := by
  obtain ⟨hop, _, hm, hf⟩ := check_ok h
  obtain ⟨s, hs, hs14, hsn⟩ := shape_nat op
  have hs1 : 1 ≤ s := by have := shapeN_some hop; omega
  rw [hsn] at hm
  rw [lenN, if_pos h, hsn, hs]
  obtain ⟨z1, z2, z3⟩ := size_all ⟨s, hs14⟩
  have z1 := z1 hs1
  simp only at z1 z2 z3
  rcases num_form hm with ⟨h1, h2⟩ | ⟨h1, h2⟩
  · have z3 := z3 h1
    rw [h1]
    rcases fits_form h2 with rfl | rfl | rfl
    all_goals exact ⟨by omega, by omega, rfl, by omega⟩
  · subst h2
    rw [h1]
    exact ⟨by omega, by omega, rfl, by omega⟩

theorem fits_more {n f : Int} (h : fitsB n f = true) (hf : f = 1 ∨ f = 2) : fitsB n (2 * f) = true := by
  rcases hf with rfl | rfl
  · simp [fitsB] at h ⊢
    omega
  · rfl

theorem right_more {op a b n f : Int} (h : checkN op a b n f = 0) (hf : f = 1 ∨ f = 2) : checkN op a b n (2 * f) = 0 ∧ lenN op a b n (2 * f) = lenN op a b n f + f := by
  obtain ⟨hop, hr, hm, _⟩ := check_ok h
  have hm2 : numB n (2 * f) (shapeN op).toNat = true := by
    rcases num_form hm with ⟨h1, h2⟩ | ⟨h1, h2⟩
    · rw [numB, if_pos h1]
      exact fits_more h2 hf
    · omega
  have hc : checkN op a b n (2 * f) = 0 := by
    rw [checkN, if_neg (by simpa using hop), if_neg (by simp [hr]), if_neg (by simp [hm2])]
  refine ⟨hc, ?_⟩
  rw [lenN, if_pos hc, lenN, if_pos h]
  omega

set_option maxHeartbeats 4000000 in
theorem lengths_law (op a b n f : Int) (w : World) (hT : Tab w) (bo : -9223372036854775808 ≤ op ∧ op ≤ 9223372036854775807) (hn : -2147483648 ≤ n ∧ n ≤ 2147483647) (bf : -9223372036854775808 ≤ f ∧ f ≤ 9223372036854775807) :
    Calls Tryd.prog 3 #[instV op a b n f] w fun e w' => e = .returned (.bool true) ∧ Below w.heap.size w w' := by
  clear bo bf
  have hI := Hid.intro (inst_new w op a b n f)
  have hb0 := Hid.intro (below_alloc w (.cells #[.int .i64 op, .int .i64 a, .int .i64 b, .int .i32 n, .int .i64 f] 23))
  have hT0 := Hid.intro (hT.alloc (.cells #[.int .i64 op, .int .i64 a, .int .i64 b, .int .i32 n, .int .i64 f] 23))
  obtain ⟨C, hC⟩ : ∃ C, checkN op a b n f = C := ⟨_, rfl⟩
  obtain ⟨L, hL⟩ : ∃ L, lenN op a b n f = L := ⟨_, rfl⟩
  have hCH := Hid.intro hC
  have hLH := Hid.intro hL
  have hnH := Hid.intro hn
  by_cases h0 : ¬ C = 0
  · have hL2 : Hid (L = 0) := by show L = 0; rw [← hL, lenN, if_neg (by rw [hC]; exact h0)]
    have e0 : (C == 0) = false := by simpa using h0
    have e1 : (C != 0) = true := by simpa using h0
    clear hn hT hC hL h0
    go_enter Tryd.func3, Tryd.ntmps3
    go_wp2_with (first | (go_at_call 4; refine (check_any _ _ _ _ _ _ hT0.out hnH.out).mono ?_; rintro e w1 ⟨rfl, hb1⟩; rw [hCH.out]; have hI1 := Hid.intro (hI.out.below hb1 hI.out.lt); obtain ⟨i0, i1, i2, i3, i4, _⟩ := hI1.out; have hT1 := Hid.intro (hT0.out.below hb1 hT0.out.size); have hw1 := Hid.intro (chain2 hb0.out hb1); clear hb1) | (go_at_call 5; refine (len_any _ _ _ _ _ _ hT1.out hnH.out).mono ?_; rintro e w2 ⟨rfl, hb2⟩; rw [hLH.out, hL2.out]; have hT2 := Hid.intro (hT1.out.below hb2 hT1.out.size); have hw2 := Hid.intro (chain2 hw1.out hb2); clear hb2) | (go_at_call 6; refine (known_any _ hT2.out).mono ?_; rintro e w5 ⟨rfl, hb5⟩))
    all_goals go_ret
    all_goals exact ⟨rfl, chain2 hw2.out hb5⟩
  have h00 : C = 0 := by omega
  clear h0
  subst h00
  obtain ⟨l1, l2, hsp0, hform⟩ := right_len hC
  rw [hL] at l1 l2
  have hsp := Hid.intro hsp0
  have hmore := Hid.intro (fun h => right_more hC h)
  have d1 : decide (L < 1) = false := decide_eq_false (by omega)
  have d2 : decide (L > 6) = false := decide_eq_false (by omega)
  have d3 : decide (6 < L) = false := decide_eq_false (by omega)
  rcases hform with rfl | rfl | rfl | rfl
  · clear hn hT hC hL hsp0 hmore
    replace hsp : Hid (spansB (shapeN op) = false) := hsp.out
    go_enter Tryd.func3, Tryd.ntmps3
    go_upto_region 4 with (first | (go_at_call 4; (with_reducible refine (check_any _ _ _ _ _ _ hT0.out hnH.out).mono ?_); rintro e w1 ⟨rfl, hb1⟩; rw [hCH.out]; have hI1 := Hid.intro (hI.out.below hb1 hI.out.lt); obtain ⟨i0, i1, i2, i3, i4, _⟩ := hI1.out; have hT1 := Hid.intro (hT0.out.below hb1 hT0.out.size); have hw1 := Hid.intro (chain2 hb0.out hb1); clear hb1) | (go_at_call 5; (with_reducible refine (len_any _ _ _ _ _ _ hT1.out hnH.out).mono ?_); rintro e w2 ⟨rfl, hb2⟩; rw [hLH.out]; have hI2 := Hid.intro (hI1.out.below hb2 hI1.out.lt); have hT2 := Hid.intro (hT1.out.below hb2 hT1.out.size); have hw2 := Hid.intro (chain2 hw1.out hb2); clear hb2))
    have m0 : ∀ p : BelowOf w2, p.wd.cell? ⟨w.heap.size, 0, none⟩ = some (.int .i64 op) := fun p => p.cell hI2.out.lt hI2.out.o
    have m4 : ∀ p : BelowOf w2, p.wd.cell? ⟨w.heap.size, 4, none⟩ = some (.int .i64 0) := fun p => p.cell hI2.out.lt hI2.out.f
    have hSp : Hid (∀ p : BelowOf w2, Calls Tryd.prog 7 #[.int .i64 op] p.wd fun e w' => e = .returned (.bool false) ∧ Below p.wd.heap.size p.wd w') := fun p => (spansOp_any op p.wd (hT2.out.below p.h hT2.out.size)).mono fun e w' ⟨he, hw⟩ => ⟨by rw [he, hsp.out], hw⟩
    clear i0 i1 i2 i3 i4
    refine wp_region_quiet_below (by kernel_rfl) (by kernel_rfl) ?_
    repeat (first | (with_reducible refine wpQuiet_skip (by with_unfolding_all rfl) ?_; simp only [Act.put, List.setIfInBounds_toArray, List.set_cons_zero, List.set_cons_succ]) | (with_reducible refine wpQuiet_step (fun K hK => ?_); go_simp; first | (with_reducible refine hK _ ?_; clear hK K) | (apply Exists.intro; refine ⟨fun _ => ?_, hK _ ?_⟩; (go_at_call 7; with_reducible refine below_calls (hSp.out _)); clear hK K)))
    with_reducible refine wpQuiet_nil ?_
    intro _ hw'
    obtain ⟨pq, hw''⟩ := hw'
    subst hw''
    have hI3 := Hid.intro (hI2.out.below pq.h hI2.out.lt)
    obtain ⟨k0, k1, k2, k3, k4, _⟩ := hI3.out
    have hT3 := Hid.intro (hT2.out.below pq.h hT2.out.size)
    have hw3 := Hid.intro (chain2 hw2.out pq.h)
    clear m0 m4
    go_wp2_with (go_at_call 6; refine (known_any _ hT3.out).mono ?_; rintro e w4 ⟨rfl, hb4⟩)
    all_goals go_ret
    all_goals exact ⟨rfl, chain2 hw3.out hb4⟩
  · have hd1 : Hid (checkN op a b n 2 = 0) := (hmore.out (.inl rfl)).1
    have hd2 : Hid (lenN op a b n 2 = L + 1) := by have := (hmore.out (.inl rfl)).2; show _ = _; rw [← hL]; exact this
    have hwrap : IntKind.i64.wrap (L + 1) = L + 1 := by rw [IntKind.wrap_i64]; omega
    clear hn hT hC hL hsp0 hmore
    replace hsp : Hid (spansB (shapeN op) = true) := hsp.out
    go_enter Tryd.func3, Tryd.ntmps3
    go_upto_region 4 with (first | (go_at_call 4; (with_reducible refine (check_any _ _ _ _ _ _ hT0.out hnH.out).mono ?_); rintro e w1 ⟨rfl, hb1⟩; rw [hCH.out]; have hI1 := Hid.intro (hI.out.below hb1 hI.out.lt); obtain ⟨i0, i1, i2, i3, i4, _⟩ := hI1.out; have hT1 := Hid.intro (hT0.out.below hb1 hT0.out.size); have hw1 := Hid.intro (chain2 hb0.out hb1); clear hb1) | (go_at_call 5; (with_reducible refine (len_any _ _ _ _ _ _ hT1.out hnH.out).mono ?_); rintro e w2 ⟨rfl, hb2⟩; rw [hLH.out]; have hI2 := Hid.intro (hI1.out.below hb2 hI1.out.lt); have hT2 := Hid.intro (hT1.out.below hb2 hT1.out.size); have hw2 := Hid.intro (chain2 hw1.out hb2); clear hb2))
    have m0 : ∀ p : BelowOf w2, p.wd.cell? ⟨w.heap.size, 0, none⟩ = some (.int .i64 op) := fun p => p.cell hI2.out.lt hI2.out.o
    have m4 : ∀ p : BelowOf w2, p.wd.cell? ⟨w.heap.size, 4, none⟩ = some (.int .i64 1) := fun p => p.cell hI2.out.lt hI2.out.f
    have hSp : Hid (∀ p : BelowOf w2, Calls Tryd.prog 7 #[.int .i64 op] p.wd fun e w' => e = .returned (.bool true) ∧ Below p.wd.heap.size p.wd w') := fun p => (spansOp_any op p.wd (hT2.out.below p.h hT2.out.size)).mono fun e w' ⟨he, hw⟩ => ⟨by rw [he, hsp.out], hw⟩
    clear i0 i1 i2 i3 i4
    refine wp_region_quiet_below (by kernel_rfl) (by kernel_rfl) ?_
    repeat (first | (with_reducible refine wpQuiet_skip (by with_unfolding_all rfl) ?_; simp only [Act.put, List.setIfInBounds_toArray, List.set_cons_zero, List.set_cons_succ]) | (with_reducible refine wpQuiet_step (fun K hK => ?_); go_simp; first | (with_reducible refine hK _ ?_; clear hK K) | (apply Exists.intro; refine ⟨fun _ => ?_, hK _ ?_⟩; (go_at_call 7; with_reducible refine below_calls (hSp.out _)); clear hK K)))
    with_reducible refine wpQuiet_nil ?_
    intro _ hw'
    obtain ⟨pq, hw''⟩ := hw'
    subst hw''
    have hI3 := Hid.intro (hI2.out.below pq.h hI2.out.lt)
    have k0 := fun o => (hI3.out.alloc o).o
    have k1 := fun o => (hI3.out.alloc o).a
    have k2 := fun o => (hI3.out.alloc o).b
    have k3 := fun o => (hI3.out.alloc o).n
    have k4 := fun o => (hI3.out.alloc o).f
    obtain ⟨u_0, u_1, u_2, u_3, u_4, hlt3⟩ := hI3.out
    have hT3 := Hid.intro (hT2.out.below pq.h hT2.out.size)
    have hw3 := Hid.intro (chain2 hw2.out pq.h)
    have hne : w.heap.size ≠ pq.wd.heap.size := by omega
    have hne2 : ¬ w.heap.size = pq.wd.heap.size := hne
    clear m0 m4
    go_upto_region 10 with fail
    have hJ := inst_new pq.wd op a b n 2
    have hbJ := below_alloc pq.wd (.cells #[.int .i64 op, .int .i64 a, .int .i64 b, .int .i32 n, .int .i64 2] 23)
    have hTJ := hT3.out.alloc (.cells #[.int .i64 op, .int .i64 a, .int .i64 b, .int .i32 n, .int .i64 2] 23)
    have hIJ := hI3.out.alloc (.cells #[.int .i64 op, .int .i64 a, .int .i64 b, .int .i32 n, .int .i64 2] 23)
    generalize hgen : pq.wd.alloc (.cells #[.int .i64 op, .int .i64 a, .int .i64 b, .int .i32 n, .int .i64 2] 23) = wj at *
    clear k0 k1 k2 k3 k4 hgen
    have m0 : ∀ p : BelowOf wj, p.wd.cell? ⟨pq.wd.heap.size, 0, none⟩ = some (.int .i64 op) := fun p => p.cell hJ.lt hJ.o
    have m1 : ∀ p : BelowOf wj, p.wd.cell? ⟨pq.wd.heap.size, 1, none⟩ = some (.int .i64 a) := fun p => p.cell hJ.lt hJ.a
    have m2 : ∀ p : BelowOf wj, p.wd.cell? ⟨pq.wd.heap.size, 2, none⟩ = some (.int .i64 b) := fun p => p.cell hJ.lt hJ.b
    have m3 : ∀ p : BelowOf wj, p.wd.cell? ⟨pq.wd.heap.size, 3, none⟩ = some (.int .i32 n) := fun p => p.cell hJ.lt hJ.n
    have m4 : ∀ p : BelowOf wj, p.wd.cell? ⟨pq.wd.heap.size, 4, none⟩ = some (.int .i64 2) := fun p => p.cell hJ.lt hJ.f
    have m5 : ∀ p : BelowOf wj, p.wd.cell? ⟨w.heap.size, 4, none⟩ = some (.int .i64 1) := fun p => p.cell hIJ.lt hIJ.f
    have hTp : Hid (∀ p : BelowOf wj, Tab p.wd) := fun p => hTJ.below p.h hTJ.size
    have hK4 : Hid (∀ p : BelowOf wj, Calls Tryd.prog 4 #[.agg #[.int .i64 op, .int .i64 a, .int .i64 b, .int .i32 n, .int .i64 2]] p.wd fun e w' => e = .returned (.int .i64 0) ∧ Below p.wd.heap.size p.wd w') := fun p => (check_any op a b n 2 p.wd (hTp.out p) hnH.out).mono fun e w' ⟨he, hw⟩ => ⟨by rw [he, hd1.out], hw⟩
    have hK5 : Hid (∀ p : BelowOf wj, Calls Tryd.prog 5 #[.agg #[.int .i64 op, .int .i64 a, .int .i64 b, .int .i32 n, .int .i64 2]] p.wd fun e w' => e = .returned (.int .i64 (L + 1)) ∧ Below p.wd.heap.size p.wd w') := fun p => (len_any op a b n 2 p.wd (hTp.out p) hnH.out).mono fun e w' ⟨he, hw⟩ => ⟨by rw [he, hd2.out], hw⟩
    have hK6 : Hid (∀ p : BelowOf wj, Calls Tryd.prog 6 #[] p.wd fun e w' => e = .returned (.bool true) ∧ Below p.wd.heap.size p.wd w') := fun p => known_any p.wd (hTp.out p)
    have hwj := Hid.intro (chain2 hw3.out hbJ)
    clear hJ hbJ hTJ hIJ
    refine wp_region_quiet_below (by kernel_rfl) (by kernel_rfl) ?_
    repeat (first | (with_reducible refine wpQuiet_skip (by with_unfolding_all rfl) ?_; simp only [Act.put, List.setIfInBounds_toArray, List.set_cons_zero, List.set_cons_succ]) | (with_reducible refine wpQuiet_step (fun K hK => ?_); go_simp; first | (with_reducible refine hK _ ?_; clear hK K) | (apply Exists.intro; refine ⟨fun _ => ?_, hK _ ?_⟩; first | (go_at_call 4; with_reducible refine below_calls (hK4.out _)) | (go_at_call 5; with_reducible refine below_calls (hK5.out _)) | (go_at_call 6; with_reducible refine below_calls (hK6.out _)); clear hK K)))
    with_reducible refine wpQuiet_nil ?_
    intro _ hw'
    obtain ⟨pq2, hw''⟩ := hw'
    subst hw''
    go_wp2
    all_goals go_ret
    all_goals exact ⟨rfl, chain2 hwj.out pq2.h⟩
  · have hd1 : Hid (checkN op a b n 4 = 0) := (hmore.out (.inr rfl)).1
    have hd2 : Hid (lenN op a b n 4 = L + 2) := by have := (hmore.out (.inr rfl)).2; show _ = _; rw [← hL]; exact this
    have hwrap : IntKind.i64.wrap (L + 2) = L + 2 := by rw [IntKind.wrap_i64]; omega
    clear hn hT hC hL hsp0 hmore
    replace hsp : Hid (spansB (shapeN op) = true) := hsp.out
    go_enter Tryd.func3, Tryd.ntmps3
    go_upto_region 4 with (first | (go_at_call 4; (with_reducible refine (check_any _ _ _ _ _ _ hT0.out hnH.out).mono ?_); rintro e w1 ⟨rfl, hb1⟩; rw [hCH.out]; have hI1 := Hid.intro (hI.out.below hb1 hI.out.lt); obtain ⟨i0, i1, i2, i3, i4, _⟩ := hI1.out; have hT1 := Hid.intro (hT0.out.below hb1 hT0.out.size); have hw1 := Hid.intro (chain2 hb0.out hb1); clear hb1) | (go_at_call 5; (with_reducible refine (len_any _ _ _ _ _ _ hT1.out hnH.out).mono ?_); rintro e w2 ⟨rfl, hb2⟩; rw [hLH.out]; have hI2 := Hid.intro (hI1.out.below hb2 hI1.out.lt); have hT2 := Hid.intro (hT1.out.below hb2 hT1.out.size); have hw2 := Hid.intro (chain2 hw1.out hb2); clear hb2))
    have m0 : ∀ p : BelowOf w2, p.wd.cell? ⟨w.heap.size, 0, none⟩ = some (.int .i64 op) := fun p => p.cell hI2.out.lt hI2.out.o
    have m4 : ∀ p : BelowOf w2, p.wd.cell? ⟨w.heap.size, 4, none⟩ = some (.int .i64 2) := fun p => p.cell hI2.out.lt hI2.out.f
    have hSp : Hid (∀ p : BelowOf w2, Calls Tryd.prog 7 #[.int .i64 op] p.wd fun e w' => e = .returned (.bool true) ∧ Below p.wd.heap.size p.wd w') := fun p => (spansOp_any op p.wd (hT2.out.below p.h hT2.out.size)).mono fun e w' ⟨he, hw⟩ => ⟨by rw [he, hsp.out], hw⟩
    clear i0 i1 i2 i3 i4
    refine wp_region_quiet_below (by kernel_rfl) (by kernel_rfl) ?_
    repeat (first | (with_reducible refine wpQuiet_skip (by with_unfolding_all rfl) ?_; simp only [Act.put, List.setIfInBounds_toArray, List.set_cons_zero, List.set_cons_succ]) | (with_reducible refine wpQuiet_step (fun K hK => ?_); go_simp; first | (with_reducible refine hK _ ?_; clear hK K) | (apply Exists.intro; refine ⟨fun _ => ?_, hK _ ?_⟩; (go_at_call 7; with_reducible refine below_calls (hSp.out _)); clear hK K)))
    with_reducible refine wpQuiet_nil ?_
    intro _ hw'
    obtain ⟨pq, hw''⟩ := hw'
    subst hw''
    have hI3 := Hid.intro (hI2.out.below pq.h hI2.out.lt)
    have k0 := fun o => (hI3.out.alloc o).o
    have k1 := fun o => (hI3.out.alloc o).a
    have k2 := fun o => (hI3.out.alloc o).b
    have k3 := fun o => (hI3.out.alloc o).n
    have k4 := fun o => (hI3.out.alloc o).f
    obtain ⟨u_0, u_1, u_2, u_3, u_4, hlt3⟩ := hI3.out
    have hT3 := Hid.intro (hT2.out.below pq.h hT2.out.size)
    have hw3 := Hid.intro (chain2 hw2.out pq.h)
    have hne : w.heap.size ≠ pq.wd.heap.size := by omega
    have hne2 : ¬ w.heap.size = pq.wd.heap.size := hne
    clear m0 m4
    go_upto_region 10 with fail
    have hJ := inst_new pq.wd op a b n 4
    have hbJ := below_alloc pq.wd (.cells #[.int .i64 op, .int .i64 a, .int .i64 b, .int .i32 n, .int .i64 4] 23)
    have hTJ := hT3.out.alloc (.cells #[.int .i64 op, .int .i64 a, .int .i64 b, .int .i32 n, .int .i64 4] 23)
    have hIJ := hI3.out.alloc (.cells #[.int .i64 op, .int .i64 a, .int .i64 b, .int .i32 n, .int .i64 4] 23)
    generalize hgen : pq.wd.alloc (.cells #[.int .i64 op, .int .i64 a, .int .i64 b, .int .i32 n, .int .i64 4] 23) = wj at *
    clear k0 k1 k2 k3 k4 hgen
    have m0 : ∀ p : BelowOf wj, p.wd.cell? ⟨pq.wd.heap.size, 0, none⟩ = some (.int .i64 op) := fun p => p.cell hJ.lt hJ.o
    have m1 : ∀ p : BelowOf wj, p.wd.cell? ⟨pq.wd.heap.size, 1, none⟩ = some (.int .i64 a) := fun p => p.cell hJ.lt hJ.a
    have m2 : ∀ p : BelowOf wj, p.wd.cell? ⟨pq.wd.heap.size, 2, none⟩ = some (.int .i64 b) := fun p => p.cell hJ.lt hJ.b
    have m3 : ∀ p : BelowOf wj, p.wd.cell? ⟨pq.wd.heap.size, 3, none⟩ = some (.int .i32 n) := fun p => p.cell hJ.lt hJ.n
    have m4 : ∀ p : BelowOf wj, p.wd.cell? ⟨pq.wd.heap.size, 4, none⟩ = some (.int .i64 4) := fun p => p.cell hJ.lt hJ.f
    have m5 : ∀ p : BelowOf wj, p.wd.cell? ⟨w.heap.size, 4, none⟩ = some (.int .i64 2) := fun p => p.cell hIJ.lt hIJ.f
    have hTp : Hid (∀ p : BelowOf wj, Tab p.wd) := fun p => hTJ.below p.h hTJ.size
    have hK4 : Hid (∀ p : BelowOf wj, Calls Tryd.prog 4 #[.agg #[.int .i64 op, .int .i64 a, .int .i64 b, .int .i32 n, .int .i64 4]] p.wd fun e w' => e = .returned (.int .i64 0) ∧ Below p.wd.heap.size p.wd w') := fun p => (check_any op a b n 4 p.wd (hTp.out p) hnH.out).mono fun e w' ⟨he, hw⟩ => ⟨by rw [he, hd1.out], hw⟩
    have hK5 : Hid (∀ p : BelowOf wj, Calls Tryd.prog 5 #[.agg #[.int .i64 op, .int .i64 a, .int .i64 b, .int .i32 n, .int .i64 4]] p.wd fun e w' => e = .returned (.int .i64 (L + 2)) ∧ Below p.wd.heap.size p.wd w') := fun p => (len_any op a b n 4 p.wd (hTp.out p) hnH.out).mono fun e w' ⟨he, hw⟩ => ⟨by rw [he, hd2.out], hw⟩
    have hK6 : Hid (∀ p : BelowOf wj, Calls Tryd.prog 6 #[] p.wd fun e w' => e = .returned (.bool true) ∧ Below p.wd.heap.size p.wd w') := fun p => known_any p.wd (hTp.out p)
    have hwj := Hid.intro (chain2 hw3.out hbJ)
    clear hJ hbJ hTJ hIJ
    refine wp_region_quiet_below (by kernel_rfl) (by kernel_rfl) ?_
    repeat (first | (with_reducible refine wpQuiet_skip (by with_unfolding_all rfl) ?_; simp only [Act.put, List.setIfInBounds_toArray, List.set_cons_zero, List.set_cons_succ]) | (with_reducible refine wpQuiet_step (fun K hK => ?_); go_simp; first | (with_reducible refine hK _ ?_; clear hK K) | (apply Exists.intro; refine ⟨fun _ => ?_, hK _ ?_⟩; first | (go_at_call 4; with_reducible refine below_calls (hK4.out _)) | (go_at_call 5; with_reducible refine below_calls (hK5.out _)) | (go_at_call 6; with_reducible refine below_calls (hK6.out _)); clear hK K)))
    with_reducible refine wpQuiet_nil ?_
    intro _ hw'
    obtain ⟨pq2, hw''⟩ := hw'
    subst hw''
    go_wp2
    all_goals go_ret
    all_goals exact ⟨rfl, chain2 hwj.out pq2.h⟩
  · clear hn hT hC hL hsp0 hmore
    replace hsp : Hid (spansB (shapeN op) = true) := hsp.out
    go_enter Tryd.func3, Tryd.ntmps3
    go_upto_region 4 with (first | (go_at_call 4; (with_reducible refine (check_any _ _ _ _ _ _ hT0.out hnH.out).mono ?_); rintro e w1 ⟨rfl, hb1⟩; rw [hCH.out]; have hI1 := Hid.intro (hI.out.below hb1 hI.out.lt); obtain ⟨i0, i1, i2, i3, i4, _⟩ := hI1.out; have hT1 := Hid.intro (hT0.out.below hb1 hT0.out.size); have hw1 := Hid.intro (chain2 hb0.out hb1); clear hb1) | (go_at_call 5; (with_reducible refine (len_any _ _ _ _ _ _ hT1.out hnH.out).mono ?_); rintro e w2 ⟨rfl, hb2⟩; rw [hLH.out]; have hI2 := Hid.intro (hI1.out.below hb2 hI1.out.lt); have hT2 := Hid.intro (hT1.out.below hb2 hT1.out.size); have hw2 := Hid.intro (chain2 hw1.out hb2); clear hb2))
    have m0 : ∀ p : BelowOf w2, p.wd.cell? ⟨w.heap.size, 0, none⟩ = some (.int .i64 op) := fun p => p.cell hI2.out.lt hI2.out.o
    have m4 : ∀ p : BelowOf w2, p.wd.cell? ⟨w.heap.size, 4, none⟩ = some (.int .i64 4) := fun p => p.cell hI2.out.lt hI2.out.f
    have hSp : Hid (∀ p : BelowOf w2, Calls Tryd.prog 7 #[.int .i64 op] p.wd fun e w' => e = .returned (.bool true) ∧ Below p.wd.heap.size p.wd w') := fun p => (spansOp_any op p.wd (hT2.out.below p.h hT2.out.size)).mono fun e w' ⟨he, hw⟩ => ⟨by rw [he, hsp.out], hw⟩
    clear i0 i1 i2 i3 i4
    refine wp_region_quiet_below (by kernel_rfl) (by kernel_rfl) ?_
    repeat (first | (with_reducible refine wpQuiet_skip (by with_unfolding_all rfl) ?_; simp only [Act.put, List.setIfInBounds_toArray, List.set_cons_zero, List.set_cons_succ]) | (with_reducible refine wpQuiet_step (fun K hK => ?_); go_simp; first | (with_reducible refine hK _ ?_; clear hK K) | (apply Exists.intro; refine ⟨fun _ => ?_, hK _ ?_⟩; (go_at_call 7; with_reducible refine below_calls (hSp.out _)); clear hK K)))
    with_reducible refine wpQuiet_nil ?_
    intro _ hw'
    obtain ⟨pq, hw''⟩ := hw'
    subst hw''
    have hI3 := Hid.intro (hI2.out.below pq.h hI2.out.lt)
    obtain ⟨k0, k1, k2, k3, k4, _⟩ := hI3.out
    have hT3 := Hid.intro (hT2.out.below pq.h hT2.out.size)
    have hw3 := Hid.intro (chain2 hw2.out pq.h)
    clear m0 m4
    go_wp2_with (go_at_call 6; refine (known_any _ hT3.out).mono ?_; rintro e w4 ⟨rfl, hb4⟩)
    all_goals go_ret
    all_goals exact ⟨rfl, chain2 hw3.out hb4⟩

end Go.Proofs.YtnlbfhjalnlngabDoor
