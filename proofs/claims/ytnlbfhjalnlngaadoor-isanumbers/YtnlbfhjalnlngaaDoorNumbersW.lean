/- The law IsaNumbers, walked. -/
import Derived.Test.YtnlbfhjalnlngaaDoorAsksW
namespace Go.Proofs.YtnlbfhjalnlngaaDoor
open Go.ChangeShapes Go.WideShapes Go.ChangeAt Go.RowKit
set_option linter.unusedVariables false
set_option maxRecDepth 100000

theorem find_nope (w : World) (hT : Tab w) : Calls Tryd.prog 11 #[.string ⟨#[110, 111, 112, 101]⟩] w fun e w' => e = .returned (.tuple #[.int .i64 0, .bool false]) ∧ w' = w :=
  (find_any _ w hT).mono fun e w' ⟨he, hw⟩ => ⟨by rw [he, show findN (nm ⟨#[110, 111, 112, 101]⟩) = 0 by decide +kernel]; rfl, hw⟩
theorem at_0 (w : World) (hT : Tab w) : Calls Tryd.prog 12 #[.int .i64 0] w fun e w' => e = .returned (.tuple #[opV [] 0 0, .bool false]) ∧ Below w.heap.size w w' := at_any 0 w hT
theorem at_44 (w : World) (hT : Tab w) : Calls Tryd.prog 12 #[.int .i64 44] w fun e w' => e = .returned (.tuple #[opV [] 0 0, .bool false]) ∧ Below w.heap.size w w' := at_any 44 w hT
theorem spans_40 (w : World) (hT : Tab w) : Calls Tryd.prog 13 #[.int .i64 40] w fun e w' => e = .returned (.bool true) ∧ Below w.heap.size w w' :=
  (spansOp_any _ w hT).mono fun e w' ⟨he, hw⟩ => ⟨by rw [he, show spansB (shapeN 40) = true by decide +kernel], hw⟩
theorem spans_1 (w : World) (hT : Tab w) : Calls Tryd.prog 13 #[.int .i64 1] w fun e w' => e = .returned (.bool false) ∧ Below w.heap.size w w' :=
  (spansOp_any _ w hT).mono fun e w' ⟨he, hw⟩ => ⟨by rw [he, show spansB (shapeN 1) = false by decide +kernel], hw⟩
theorem check_is (op a b n f C : Int) (hC : checkN op a b n f = C) (hn : -2147483648 ≤ n ∧ n ≤ 2147483647) (w : World) (hT : Tab w) : Calls Tryd.prog 14 #[.agg #[.int .i64 op, .int .i64 a, .int .i64 b, .int .i32 n, .int .i64 f]] w fun e w' => e = .returned (.int .i64 C) ∧ Below w.heap.size w w' :=
  (check_any op a b n f w hT hn).mono fun e w' ⟨he, hw⟩ => ⟨by rw [he, hC], hw⟩
theorem len_is (op a b n f C : Int) (hC : lenN op a b n f = C) (hn : -2147483648 ≤ n ∧ n ≤ 2147483647) (w : World) (hT : Tab w) : Calls Tryd.prog 15 #[.agg #[.int .i64 op, .int .i64 a, .int .i64 b, .int .i32 n, .int .i64 f]] w fun e w' => e = .returned (.int .i64 C) ∧ Below w.heap.size w w' :=
  (len_any op a b n f w hT hn).mono fun e w' ⟨he, hw⟩ => ⟨by rw [he, hC], hw⟩
theorem c1 : checkN 14 1 9 0 0 = 12 := by decide +kernel
theorem c2 : checkN 1 1 0 0 0 = 12 := by decide +kernel
theorem c3 : checkN 40 0 0 200 1 = 13 := by decide +kernel
theorem c4 : checkN 0 0 0 0 0 = 11 := by decide +kernel
theorem l1 : lenN 38 0 0 0 0 = 6 := by decide +kernel
theorem l2 : lenN 42 0 0 0 4 = 6 := by decide +kernel

set_option maxHeartbeats 4000000 in
theorem numbers_law (w : World) (hT : Tab w) :
    Calls Tryd.prog 3 #[] w fun e w' => e = .returned (.bool true) ∧ Below w.heap.size w w' := by
  have hTH := Hid.intro hT
  clear hT
  go_enter Tryd.func3, Tryd.ntmps3
  go_wp2_with (first | (go_at_call 9; refine (ops_row _ hTH.out).mono ?_; rintro e w1 ⟨g, rfl, hg, hsz, hb1, hrow⟩; have hT1 := Hid.intro (hTH.out.below hb1 hTH.out.size); replace hrow := Hid.intro hrow; replace hb1 := Hid.intro hb1) | (go_at_call 10; refine (refOps_row _).mono ?_; rintro e w2 ⟨g2, rfl, hg2, hsz2, hb2, hrow2⟩; have hT2 := Hid.intro (hT1.out.below hb2 hT1.out.size); have hrow1 := Hid.intro (hrow.out.below hb2 hrow.out.lt); replace hrow2 := Hid.intro hrow2; have hw2 := Hid.intro (chain2 hb1.out hb2); clear hb2))
  go_loopw [3] (fun vi wr => ∃ (i : Nat), i ≤ 43 ∧ vi = .int .i64 (i : Int) ∧ Hid (Below w2.heap.size w2 wr)) (fun vi _ => 43 - (intOf vi).toNat)
  case atStart => exact ⟨0, by omega, rfl, Below.refl _ _⟩
  case round =>
    obtain ⟨i, hi, rfl, hbr⟩ := hrel
    by_cases hlt : i < 43
    · have r1 := (hrow1.out.below hbr.out hrow1.out.lt)
      have r2 := (hrow2.out.below hbr.out hrow2.out.lt)
      have k0 : (0 : Int) ≤ (i : Int) := by omega
      have k1 : (i : Int) < 43 := by omega
      have p0 : ∀ p : BelowOf wr, p.wd.cell? ⟨g, i * 3, none⟩ = some (.string (str (nameAt i))) := fun p => p.cell r1.lt (r1.op i hlt).1
      have p1 : ∀ p : BelowOf wr, p.wd.cell? ⟨g, i * 3 + 1, none⟩ = some (.int .u8 (byteAt i)) := fun p => p.cell r1.lt (r1.op i hlt).2.1
      have p2 : ∀ p : BelowOf wr, p.wd.cell? ⟨g, i * 3 + 2, none⟩ = some (.int .i64 (shapeAt i)) := fun p => p.cell r1.lt (r1.op i hlt).2.2
      have q0 : ∀ p : BelowOf wr, p.wd.cell? ⟨g2, i * 3, none⟩ = some (.string (str (nameAt i))) := fun p => p.cell r2.lt (r2.op i hlt).1
      have q1 : ∀ p : BelowOf wr, p.wd.cell? ⟨g2, i * 3 + 1, none⟩ = some (.int .u8 (byteAt i)) := fun p => p.cell r2.lt (r2.op i hlt).2.1
      have q2 : ∀ p : BelowOf wr, p.wd.cell? ⟨g2, i * 3 + 2, none⟩ = some (.int .i64 (shapeAt i)) := fun p => p.cell r2.lt (r2.op i hlt).2.2
      clear r1 r2
      generalize nameAt i = ni at *
      generalize byteAt i = bi at *
      generalize shapeAt i = si at *
      go_wp2
      all_goals first | omega | skip
      refine wp_region_quiet_below (by kernel_rfl) (by kernel_rfl) ?_
      repeat (first | (with_reducible refine wpQuiet_skip (by with_unfolding_all rfl) ?_; simp only [Act.put, List.setIfInBounds_toArray, List.set_cons_zero, List.set_cons_succ]) | (with_reducible refine wpQuiet_step (fun K hK => ?_); go_simp; (with_reducible refine hK _ ?_; clear hK K)))
      with_reducible refine wpQuiet_nil ?_
      intro _ hw'
      obtain ⟨pq, hw''⟩ := hw'
      subst hw''
      go_wp2
      all_goals first | omega | skip
      go_roundw
      case rel => exact ⟨i + 1, by omega, by go_num, chain2 hbr.out pq.h⟩
      case measure => simp [intOf]; omega
    · have hTr := Hid.intro (hT2.out.below hbr.out hT2.out.size)
      have hwr := Hid.intro (chain2 hw2.out hbr.out)
      have hge : ¬ ((i : Int) < 43) := by omega
      go_wp2_with (first | (go_at_call 11; (with_reducible refine (find_nope _ hTr.out).mono ?_); rintro e wn ⟨rfl, rfl⟩) | (go_at_call 12; (with_reducible refine (at_0 _ hTr.out).mono ?_); rintro e wn ⟨rfl, hb⟩; replace hTr := Hid.intro (Tab.below hTr.out hb (Tab.size hTr.out)); replace hwr := Hid.intro (chain2 hwr.out hb); clear hb) | (go_at_call 12; (with_reducible refine (at_44 _ (hTr.out.alloc _)).mono ?_); rintro e wn ⟨rfl, hb⟩; replace hTr := Hid.intro (Tab.below (hTr.out.alloc _) hb (Tab.size (hTr.out.alloc _))); replace hwr := Hid.intro (chain2 (hwr.out.alloc hwr.out.size _) hb); clear hb) | (go_at_call 13; (with_reducible refine (spans_40 _ (hTr.out.alloc _)).mono ?_); rintro e wn ⟨rfl, hb⟩; replace hTr := Hid.intro (Tab.below (hTr.out.alloc _) hb (Tab.size (hTr.out.alloc _))); replace hwr := Hid.intro (chain2 (hwr.out.alloc hwr.out.size _) hb); clear hb) | (go_at_call 13; (with_reducible refine (spans_1 _ hTr.out).mono ?_); rintro e wn ⟨rfl, hb⟩; replace hTr := Hid.intro (Tab.below hTr.out hb (Tab.size hTr.out)); replace hwr := Hid.intro (chain2 hwr.out hb); clear hb) | (go_at_call 14; (with_reducible refine (check_is 14 1 9 0 0 12 c1 (by omega) _ hTr.out).mono ?_); rintro e wn ⟨rfl, hb⟩; replace hTr := Hid.intro (Tab.below hTr.out hb (Tab.size hTr.out)); replace hwr := Hid.intro (chain2 hwr.out hb); clear hb) | (go_at_call 14; (with_reducible refine (check_is 1 1 0 0 0 12 c2 (by omega) _ hTr.out).mono ?_); rintro e wn ⟨rfl, hb⟩; replace hTr := Hid.intro (Tab.below hTr.out hb (Tab.size hTr.out)); replace hwr := Hid.intro (chain2 hwr.out hb); clear hb) | (go_at_call 14; (with_reducible refine (check_is 40 0 0 200 1 13 c3 (by omega) _ hTr.out).mono ?_); rintro e wn ⟨rfl, hb⟩; replace hTr := Hid.intro (Tab.below hTr.out hb (Tab.size hTr.out)); replace hwr := Hid.intro (chain2 hwr.out hb); clear hb) | (go_at_call 14; (with_reducible refine (check_is 0 0 0 0 0 11 c4 (by omega) _ hTr.out).mono ?_); rintro e wn ⟨rfl, hb⟩; replace hTr := Hid.intro (Tab.below hTr.out hb (Tab.size hTr.out)); replace hwr := Hid.intro (chain2 hwr.out hb); clear hb) | (go_at_call 15; (with_reducible refine (len_is 38 0 0 0 0 6 l1 (by omega) _ hTr.out).mono ?_); rintro e wn ⟨rfl, hb⟩; replace hTr := Hid.intro (Tab.below hTr.out hb (Tab.size hTr.out)); replace hwr := Hid.intro (chain2 hwr.out hb); clear hb) | (go_at_call 15; (with_reducible refine (len_is 42 0 0 0 4 6 l2 (by omega) _ hTr.out).mono ?_); rintro e wn ⟨rfl, hb⟩; replace hTr := Hid.intro (Tab.below hTr.out hb (Tab.size hTr.out)); replace hwr := Hid.intro (chain2 hwr.out hb); clear hb) | (go_at_call 16; (with_reducible refine (known_any _ hTr.out).mono ?_); rintro e wn ⟨rfl, hb⟩; replace hTr := Hid.intro (Tab.below hTr.out hb (Tab.size hTr.out)); replace hwr := Hid.intro (chain2 hwr.out hb); clear hb))
      all_goals first | omega | skip
      all_goals go_ret
      all_goals exact ⟨rfl, hwr.out⟩
end Go.Proofs.YtnlbfhjalnlngaaDoor
