/- The law IsaApart, walked. -/
import Derived.Test.YtnlbfhjalnlngaaDoorAsksW
namespace Go.Proofs.YtnlbfhjalnlngaaDoor
open Go.ChangeShapes Go.WideShapes Go.ChangeAt Go.RowKit
set_option linter.unusedVariables false
set_option maxRecDepth 100000

theorem within_any (a : Int) (w : World) (ha : -9223372036854775808 ≤ a ∧ a ≤ 9223372036854775807) :
    Calls Tryd.prog 24 #[.int .i64 a, .int .i64 0, .int .i64 42] w fun e w' => ∃ i : Nat, i < 43 ∧ e = .returned (.int .i64 (i : Int)) ∧ w' = w := by
  have h43 : (-43 : Int) < a.tmod 43 ∧ a.tmod 43 < 43 := ⟨Int.lt_tmod_of_pos a (by omega), Int.tmod_lt_of_pos a (by omega)⟩
  by_cases h : a.tmod 43 < 0
  · obtain ⟨i, hi⟩ : ∃ i : Nat, a.tmod 43 + 43 = (i : Int) := ⟨(a.tmod 43 + 43).toNat, by omega⟩
    generalize hm : a.tmod 43 = m at *
    go_enter Tryd.func24, Tryd.ntmps24
    go_wp2
    all_goals go_ret
    all_goals exact ⟨i, by omega, by rw [show m + 42 + 1 = (i : Int) by omega]; rfl, rfl⟩
  · obtain ⟨i, hi⟩ : ∃ i : Nat, a.tmod 43 = (i : Int) := ⟨(a.tmod 43).toNat, by omega⟩
    generalize hm : a.tmod 43 = m at *
    go_enter Tryd.func24, Tryd.ntmps24
    go_wp2
    all_goals go_ret
    all_goals exact ⟨i, by omega, rfl, rfl⟩

/-- no two operations share a name, or a first byte by any form -/
theorem name_apart (i j : Nat) (hi : i < 43) (hj : j < 43) (h : nameAt i = nameAt j) : i = j := by
  have : ∀ i j : Fin 43, nameAt i.1 = nameAt j.1 → i = j := by decide +kernel
  have := this ⟨i, hi⟩ ⟨j, hj⟩ h
  injection this
def lastAt (i : Nat) : Int := byteAt i + (if spansB (shapeAt i) then 2 else 0)
theorem byte_apart (i j : Nat) (hi : i < 43) (hj : j < 43) (h : i ≠ j) : lastAt i < byteAt j ∨ lastAt j < byteAt i := by
  have : ∀ i j : Fin 43, i ≠ j → lastAt i.1 < byteAt j.1 ∨ lastAt j.1 < byteAt i.1 := by decide +kernel
  exact this ⟨i, hi⟩ ⟨j, hj⟩ (fun e => h (by injection e))
theorem find_at (i : Nat) (hi : i < 43) : findN (nameAt i) = (i : Int) + 1 := findN_hit hi rfl fun j hj e => by
  have := name_apart j i (by omega) hi e
  omega
/-- what the law reads: Find of a name of the list -/
theorem find_row (i : Nat) (hi : i < 43) (w : World) (hT : Tab w) : Calls Tryd.prog 11 #[.string (str (nameAt i))] w fun e w' => e = .returned (.tuple #[.int .i64 ((i : Int) + 1), .bool true]) ∧ w' = w :=
  (find_any _ w hT).mono fun e w' ⟨he, hw⟩ => ⟨by rw [he, show nm (str (nameAt i)) = nameAt i from rfl, find_at i hi, show decide ((i : Int) + 1 > 0) = true from decide_eq_true (by omega)], hw⟩
theorem spans_row (i : Nat) (hi : i < 43) (w : World) (hT : Tab w) : Calls Tryd.prog 13 #[.int .i64 ((i : Int) + 1)] w fun e w' => e = .returned (.bool (spansB (shapeAt i))) ∧ Below w.heap.size w w' :=
  (spansOp_any _ w hT).mono fun e w' ⟨he, hw⟩ => ⟨by rw [he, shapeN, if_pos (by omega), show ((i : Int) + 1 - 1).toNat = i by omega], hw⟩

set_option maxHeartbeats 4000000 in
theorem apart_law (a b : Int) (w : World) (hT : Tab w) (ha : -9223372036854775808 ≤ a ∧ a ≤ 9223372036854775807) (hb : -9223372036854775808 ≤ b ∧ b ≤ 9223372036854775807) :
    Calls Tryd.prog 6 #[.int .i64 a, .int .i64 b] w fun e w' => e = .returned (.bool true) ∧ Below w.heap.size w w' := by
  have hTH := Hid.intro hT
  clear hT
  go_enter Tryd.func6, Tryd.ntmps6
  go_upto_region 6 with (first | (go_at_call 9; refine (ops_row _ hTH.out).mono ?_; rintro e w1 ⟨g, rfl, hg, hsz, hb1, hrow⟩; have hT1 := Hid.intro (hTH.out.below hb1 hTH.out.size); replace hrow := Hid.intro hrow; replace hb1 := Hid.intro hb1) | (go_at_call 24; (with_reducible refine (within_any a _ ha).mono ?_); rintro e w2 ⟨i, hi, rfl, rfl⟩; obtain ⟨x0, x1, x2⟩ := hrow.out.op i hi; have rxb := byte_range i hi) | (go_at_call 24; (with_reducible refine (within_any b _ hb).mono ?_); rintro e w3 ⟨j, hj, rfl, rfl⟩; obtain ⟨y0, y1, y2⟩ := hrow.out.op j hj; have ryb := byte_range j hj))
  by_cases hij : i = j
  · subst hij
    go_wp2_with (first | (go_at_call 11; refine (find_row i hi _ hT1.out).mono ?_; rintro e w4 ⟨rfl, rfl⟩) | (go_at_call 16; refine (known_any _ hT1.out).mono ?_; rintro e w5 ⟨rfl, hb5⟩))
    all_goals first | omega | skip
    all_goals go_ret
    all_goals exact ⟨rfl, chain2 hb1.out hb5⟩
  · have e1 : ((i : Int) == (j : Int)) = false := by simp; omega
    have hnn : nameAt i ≠ nameAt j := fun e => hij (name_apart i j hi hj e)
    have n1 : (nameAt i == nameAt j) = false := by simpa using hnn
    have n2 : (nameAt i != nameAt j) = true := by simpa using hnn
    have hap := byte_apart i j hi hj hij
    unfold lastAt at hap
    have wi := byte_range i hi
    have wj := byte_range j hj
    clear hnn
    cases hsi : spansB (shapeAt i) <;> cases hsj : spansB (shapeAt j) <;> rw [hsi, hsj] at hap <;> simp only [if_true, if_false, Bool.false_eq_true, Int.add_zero] at hap
    · have hsiH := Hid.intro hsi
      have hsjH := Hid.intro hsj
      have hapH := Hid.intro hap
      clear hsi hsj hap
      go_upto_region 19 with (first | (go_at_call 11; refine (find_row i hi _ hT1.out).mono ?_; rintro e w4 ⟨rfl, rfl⟩) | (go_at_call 13; (with_reducible refine (spans_row i hi _ hT1.out).mono ?_); rintro e w5 ⟨rfl, hb5⟩; rw [hsiH.out]; have hT5 := Hid.intro (hT1.out.below hb5 hT1.out.size); have hrow5 := Hid.intro (hrow.out.below hb5 hrow.out.lt); obtain ⟨v0, v1, v2⟩ := hrow5.out.op j hj; have hw5 := Hid.intro (chain2 hb1.out hb5); clear hb5) | (go_at_call 13; (with_reducible refine (spans_row j hj _ hT5.out).mono ?_); rintro e w6 ⟨rfl, hb6⟩; rw [hsjH.out]; have hT6 := Hid.intro (hT5.out.below hb6 hT5.out.size); have hrow6 := Hid.intro (hrow5.out.below hb6 hrow5.out.lt); have hw6 := Hid.intro (chain2 hw5.out hb6); clear hb6))
      all_goals first | omega | skip
      have p0 : ∀ p : BelowOf w6, p.wd.cell? ⟨g, i * 3, none⟩ = some (.string (str (nameAt i))) := fun p => p.cell hrow6.out.lt (hrow6.out.op i hi).1
      have p1 : ∀ p : BelowOf w6, p.wd.cell? ⟨g, j * 3, none⟩ = some (.string (str (nameAt j))) := fun p => p.cell hrow6.out.lt (hrow6.out.op j hj).1
      have hTp := fun p : BelowOf w6 => Hid.intro (hT6.out.below p.h hT6.out.size)
      have hTpH := Hid.intro hTp
      clear hTp x0 x1 x2 y0 y1 y2 v0 v1 v2
      have k0 : (0 : Int) ≤ (i : Int) := by omega
      have k1 : (i : Int) < 43 := by omega
      have k2 : (0 : Int) ≤ (j : Int) := by omega
      have k3 : (j : Int) < 43 := by omega
      by_cases hc : byteAt i < byteAt j
      · have d1 : decide (byteAt i < byteAt j) = true := decide_eq_true hc
        refine wp_region_quiet_below (by kernel_rfl) (by kernel_rfl) ?_
        repeat (first | (with_reducible refine wpQuiet_skip (by with_unfolding_all rfl) ?_; simp only [Act.put, List.setIfInBounds_toArray, List.set_cons_zero, List.set_cons_succ]) | (with_reducible refine wpQuiet_step (fun K hK => ?_); go_simp; first | (with_reducible refine hK _ ?_; clear hK K) | (apply Exists.intro; refine ⟨fun _ => ?_, hK _ ?_⟩; (go_at_call 16; with_reducible refine below_calls (known_any _ (hTpH.out _).out)); clear hK K)))
        with_reducible refine wpQuiet_nil ?_
        intro _ hw'
        obtain ⟨pq, hw''⟩ := hw'
        subst hw''
        go_wp2
        go_ret
        exact ⟨rfl, chain2 hw6.out pq.h⟩
      · have d1 : decide (byteAt i < byteAt j) = false := decide_eq_false hc
        have d2 : decide (byteAt j < byteAt i) = true := decide_eq_true (by have := hapH.out; omega)
        refine wp_region_quiet_below (by kernel_rfl) (by kernel_rfl) ?_
        repeat (first | (with_reducible refine wpQuiet_skip (by with_unfolding_all rfl) ?_; simp only [Act.put, List.setIfInBounds_toArray, List.set_cons_zero, List.set_cons_succ]) | (with_reducible refine wpQuiet_step (fun K hK => ?_); go_simp; first | (with_reducible refine hK _ ?_; clear hK K) | (apply Exists.intro; refine ⟨fun _ => ?_, hK _ ?_⟩; (go_at_call 16; with_reducible refine below_calls (known_any _ (hTpH.out _).out)); clear hK K)))
        with_reducible refine wpQuiet_nil ?_
        intro _ hw'
        obtain ⟨pq, hw''⟩ := hw'
        subst hw''
        go_wp2
        go_ret
        exact ⟨rfl, chain2 hw6.out pq.h⟩
    · have hsiH := Hid.intro hsi
      have hsjH := Hid.intro hsj
      have hapH := Hid.intro hap
      clear hsi hsj hap
      go_upto_region 19 with (first | (go_at_call 11; refine (find_row i hi _ hT1.out).mono ?_; rintro e w4 ⟨rfl, rfl⟩) | (go_at_call 13; (with_reducible refine (spans_row i hi _ hT1.out).mono ?_); rintro e w5 ⟨rfl, hb5⟩; rw [hsiH.out]; have hT5 := Hid.intro (hT1.out.below hb5 hT1.out.size); have hrow5 := Hid.intro (hrow.out.below hb5 hrow.out.lt); obtain ⟨v0, v1, v2⟩ := hrow5.out.op j hj; have hw5 := Hid.intro (chain2 hb1.out hb5); clear hb5) | (go_at_call 13; (with_reducible refine (spans_row j hj _ hT5.out).mono ?_); rintro e w6 ⟨rfl, hb6⟩; rw [hsjH.out]; have hT6 := Hid.intro (hT5.out.below hb6 hT5.out.size); have hrow6 := Hid.intro (hrow5.out.below hb6 hrow5.out.lt); have hw6 := Hid.intro (chain2 hw5.out hb6); clear hb6))
      all_goals first | omega | skip
      have p0 : ∀ p : BelowOf w6, p.wd.cell? ⟨g, i * 3, none⟩ = some (.string (str (nameAt i))) := fun p => p.cell hrow6.out.lt (hrow6.out.op i hi).1
      have p1 : ∀ p : BelowOf w6, p.wd.cell? ⟨g, j * 3, none⟩ = some (.string (str (nameAt j))) := fun p => p.cell hrow6.out.lt (hrow6.out.op j hj).1
      have hTp := fun p : BelowOf w6 => Hid.intro (hT6.out.below p.h hT6.out.size)
      have hTpH := Hid.intro hTp
      clear hTp x0 x1 x2 y0 y1 y2 v0 v1 v2
      have k0 : (0 : Int) ≤ (i : Int) := by omega
      have k1 : (i : Int) < 43 := by omega
      have k2 : (0 : Int) ≤ (j : Int) := by omega
      have k3 : (j : Int) < 43 := by omega
      by_cases hc : byteAt i < byteAt j
      · have d1 : decide (byteAt i < byteAt j) = true := decide_eq_true hc
        refine wp_region_quiet_below (by kernel_rfl) (by kernel_rfl) ?_
        repeat (first | (with_reducible refine wpQuiet_skip (by with_unfolding_all rfl) ?_; simp only [Act.put, List.setIfInBounds_toArray, List.set_cons_zero, List.set_cons_succ]) | (with_reducible refine wpQuiet_step (fun K hK => ?_); go_simp; first | (with_reducible refine hK _ ?_; clear hK K) | (apply Exists.intro; refine ⟨fun _ => ?_, hK _ ?_⟩; (go_at_call 16; with_reducible refine below_calls (known_any _ (hTpH.out _).out)); clear hK K)))
        with_reducible refine wpQuiet_nil ?_
        intro _ hw'
        obtain ⟨pq, hw''⟩ := hw'
        subst hw''
        go_wp2
        go_ret
        exact ⟨rfl, chain2 hw6.out pq.h⟩
      · have d1 : decide (byteAt i < byteAt j) = false := decide_eq_false hc
        have d2 : decide (byteAt j + 2 < byteAt i) = true := decide_eq_true (by have := hapH.out; omega)
        refine wp_region_quiet_below (by kernel_rfl) (by kernel_rfl) ?_
        repeat (first | (with_reducible refine wpQuiet_skip (by with_unfolding_all rfl) ?_; simp only [Act.put, List.setIfInBounds_toArray, List.set_cons_zero, List.set_cons_succ]) | (with_reducible refine wpQuiet_step (fun K hK => ?_); go_simp; first | (with_reducible refine hK _ ?_; clear hK K) | (apply Exists.intro; refine ⟨fun _ => ?_, hK _ ?_⟩; (go_at_call 16; with_reducible refine below_calls (known_any _ (hTpH.out _).out)); clear hK K)))
        with_reducible refine wpQuiet_nil ?_
        intro _ hw'
        obtain ⟨pq, hw''⟩ := hw'
        subst hw''
        go_wp2
        go_ret
        exact ⟨rfl, chain2 hw6.out pq.h⟩
    · have hsiH := Hid.intro hsi
      have hsjH := Hid.intro hsj
      have hapH := Hid.intro hap
      clear hsi hsj hap
      go_upto_region 19 with (first | (go_at_call 11; refine (find_row i hi _ hT1.out).mono ?_; rintro e w4 ⟨rfl, rfl⟩) | (go_at_call 13; (with_reducible refine (spans_row i hi _ hT1.out).mono ?_); rintro e w5 ⟨rfl, hb5⟩; rw [hsiH.out]; have hT5 := Hid.intro (hT1.out.below hb5 hT1.out.size); have hrow5 := Hid.intro (hrow.out.below hb5 hrow.out.lt); obtain ⟨v0, v1, v2⟩ := hrow5.out.op j hj; have hw5 := Hid.intro (chain2 hb1.out hb5); clear hb5) | (go_at_call 13; (with_reducible refine (spans_row j hj _ hT5.out).mono ?_); rintro e w6 ⟨rfl, hb6⟩; rw [hsjH.out]; have hT6 := Hid.intro (hT5.out.below hb6 hT5.out.size); have hrow6 := Hid.intro (hrow5.out.below hb6 hrow5.out.lt); have hw6 := Hid.intro (chain2 hw5.out hb6); clear hb6))
      all_goals first | omega | skip
      have p0 : ∀ p : BelowOf w6, p.wd.cell? ⟨g, i * 3, none⟩ = some (.string (str (nameAt i))) := fun p => p.cell hrow6.out.lt (hrow6.out.op i hi).1
      have p1 : ∀ p : BelowOf w6, p.wd.cell? ⟨g, j * 3, none⟩ = some (.string (str (nameAt j))) := fun p => p.cell hrow6.out.lt (hrow6.out.op j hj).1
      have hTp := fun p : BelowOf w6 => Hid.intro (hT6.out.below p.h hT6.out.size)
      have hTpH := Hid.intro hTp
      clear hTp x0 x1 x2 y0 y1 y2 v0 v1 v2
      have k0 : (0 : Int) ≤ (i : Int) := by omega
      have k1 : (i : Int) < 43 := by omega
      have k2 : (0 : Int) ≤ (j : Int) := by omega
      have k3 : (j : Int) < 43 := by omega
      by_cases hc : byteAt i + 2 < byteAt j
      · have d1 : decide (byteAt i + 2 < byteAt j) = true := decide_eq_true hc
        refine wp_region_quiet_below (by kernel_rfl) (by kernel_rfl) ?_
        repeat (first | (with_reducible refine wpQuiet_skip (by with_unfolding_all rfl) ?_; simp only [Act.put, List.setIfInBounds_toArray, List.set_cons_zero, List.set_cons_succ]) | (with_reducible refine wpQuiet_step (fun K hK => ?_); go_simp; first | (with_reducible refine hK _ ?_; clear hK K) | (apply Exists.intro; refine ⟨fun _ => ?_, hK _ ?_⟩; (go_at_call 16; with_reducible refine below_calls (known_any _ (hTpH.out _).out)); clear hK K)))
        with_reducible refine wpQuiet_nil ?_
        intro _ hw'
        obtain ⟨pq, hw''⟩ := hw'
        subst hw''
        go_wp2
        go_ret
        exact ⟨rfl, chain2 hw6.out pq.h⟩
      · have d1 : decide (byteAt i + 2 < byteAt j) = false := decide_eq_false hc
        have d2 : decide (byteAt j < byteAt i) = true := decide_eq_true (by have := hapH.out; omega)
        refine wp_region_quiet_below (by kernel_rfl) (by kernel_rfl) ?_
        repeat (first | (with_reducible refine wpQuiet_skip (by with_unfolding_all rfl) ?_; simp only [Act.put, List.setIfInBounds_toArray, List.set_cons_zero, List.set_cons_succ]) | (with_reducible refine wpQuiet_step (fun K hK => ?_); go_simp; first | (with_reducible refine hK _ ?_; clear hK K) | (apply Exists.intro; refine ⟨fun _ => ?_, hK _ ?_⟩; (go_at_call 16; with_reducible refine below_calls (known_any _ (hTpH.out _).out)); clear hK K)))
        with_reducible refine wpQuiet_nil ?_
        intro _ hw'
        obtain ⟨pq, hw''⟩ := hw'
        subst hw''
        go_wp2
        go_ret
        exact ⟨rfl, chain2 hw6.out pq.h⟩
    · have hsiH := Hid.intro hsi
      have hsjH := Hid.intro hsj
      have hapH := Hid.intro hap
      clear hsi hsj hap
      go_upto_region 19 with (first | (go_at_call 11; refine (find_row i hi _ hT1.out).mono ?_; rintro e w4 ⟨rfl, rfl⟩) | (go_at_call 13; (with_reducible refine (spans_row i hi _ hT1.out).mono ?_); rintro e w5 ⟨rfl, hb5⟩; rw [hsiH.out]; have hT5 := Hid.intro (hT1.out.below hb5 hT1.out.size); have hrow5 := Hid.intro (hrow.out.below hb5 hrow.out.lt); obtain ⟨v0, v1, v2⟩ := hrow5.out.op j hj; have hw5 := Hid.intro (chain2 hb1.out hb5); clear hb5) | (go_at_call 13; (with_reducible refine (spans_row j hj _ hT5.out).mono ?_); rintro e w6 ⟨rfl, hb6⟩; rw [hsjH.out]; have hT6 := Hid.intro (hT5.out.below hb6 hT5.out.size); have hrow6 := Hid.intro (hrow5.out.below hb6 hrow5.out.lt); have hw6 := Hid.intro (chain2 hw5.out hb6); clear hb6))
      all_goals first | omega | skip
      have p0 : ∀ p : BelowOf w6, p.wd.cell? ⟨g, i * 3, none⟩ = some (.string (str (nameAt i))) := fun p => p.cell hrow6.out.lt (hrow6.out.op i hi).1
      have p1 : ∀ p : BelowOf w6, p.wd.cell? ⟨g, j * 3, none⟩ = some (.string (str (nameAt j))) := fun p => p.cell hrow6.out.lt (hrow6.out.op j hj).1
      have hTp := fun p : BelowOf w6 => Hid.intro (hT6.out.below p.h hT6.out.size)
      have hTpH := Hid.intro hTp
      clear hTp x0 x1 x2 y0 y1 y2 v0 v1 v2
      have k0 : (0 : Int) ≤ (i : Int) := by omega
      have k1 : (i : Int) < 43 := by omega
      have k2 : (0 : Int) ≤ (j : Int) := by omega
      have k3 : (j : Int) < 43 := by omega
      by_cases hc : byteAt i + 2 < byteAt j
      · have d1 : decide (byteAt i + 2 < byteAt j) = true := decide_eq_true hc
        refine wp_region_quiet_below (by kernel_rfl) (by kernel_rfl) ?_
        repeat (first | (with_reducible refine wpQuiet_skip (by with_unfolding_all rfl) ?_; simp only [Act.put, List.setIfInBounds_toArray, List.set_cons_zero, List.set_cons_succ]) | (with_reducible refine wpQuiet_step (fun K hK => ?_); go_simp; first | (with_reducible refine hK _ ?_; clear hK K) | (apply Exists.intro; refine ⟨fun _ => ?_, hK _ ?_⟩; (go_at_call 16; with_reducible refine below_calls (known_any _ (hTpH.out _).out)); clear hK K)))
        with_reducible refine wpQuiet_nil ?_
        intro _ hw'
        obtain ⟨pq, hw''⟩ := hw'
        subst hw''
        go_wp2
        go_ret
        exact ⟨rfl, chain2 hw6.out pq.h⟩
      · have d1 : decide (byteAt i + 2 < byteAt j) = false := decide_eq_false hc
        have d2 : decide (byteAt j + 2 < byteAt i) = true := decide_eq_true (by have := hapH.out; omega)
        refine wp_region_quiet_below (by kernel_rfl) (by kernel_rfl) ?_
        repeat (first | (with_reducible refine wpQuiet_skip (by with_unfolding_all rfl) ?_; simp only [Act.put, List.setIfInBounds_toArray, List.set_cons_zero, List.set_cons_succ]) | (with_reducible refine wpQuiet_step (fun K hK => ?_); go_simp; first | (with_reducible refine hK _ ?_; clear hK K) | (apply Exists.intro; refine ⟨fun _ => ?_, hK _ ?_⟩; (go_at_call 16; with_reducible refine below_calls (known_any _ (hTpH.out _).out)); clear hK K)))
        with_reducible refine wpQuiet_nil ?_
        intro _ hw'
        obtain ⟨pq, hw''⟩ := hw'
        subst hw''
        go_wp2
        go_ret
        exact ⟨rfl, chain2 hw6.out pq.h⟩
end Go.Proofs.YtnlbfhjalnlngaaDoor
