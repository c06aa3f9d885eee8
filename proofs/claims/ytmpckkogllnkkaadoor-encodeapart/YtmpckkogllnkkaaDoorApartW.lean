/- The law EncodeApart, walked. -/
import Derived.Test.YtmpckkogllnkkaaDoorApartM
import Derived.Lib.Strings
namespace Go.Proofs.YtmpckkogllnkkaaDoor
open Go.ChangeShapes Go.WideShapes Go.ChangeAt Go.RowKit
set_option linter.unusedVariables false
set_option maxRecDepth 100000

theorem str_ne {s t : ByteArray} (h : s ≠ t) : (s.toList == t.toList) = false := by
  rw [Lib.toList_data, Lib.toList_data]
  simp only [beq_eq_false_iff_ne, ne_eq]
  intro he
  apply h
  cases s
  cases t
  simpa using he

theorem lies_take {w : World} {a : Option Addr} {zs : List Int} (h : Lies w a zs) (k : Nat) : Lies w a (zs.take k) := by
  refine ⟨areBytes_take _ h.1 _, ?_⟩
  rcases h.2 with rfl | ⟨b, off, ha, hc⟩
  · exact .inl (by simp)
  · refine .inr ⟨b, off, ha, fun i hi => ?_⟩
    rw [List.length_take] at hi
    rw [hc i (by omega)]
    simp [List.getElem?_take_of_lt (show i < k by omega)]

theorem known_all {w : World} (hT : Tab w) (p : BelowOf w) : Calls Tryd.prog 10 #[] p.wd fun e w' => e = .returned (.bool true) ∧ Below p.wd.heap.size p.wd w' := known_any _ (hT.below p.h hT.size)

set_option maxHeartbeats 2000000 in
theorem apart_law (op a b n f op' a' b' n' f' : Int) (w : World) (hT : Tab w) (bo : -9223372036854775808 ≤ op ∧ op ≤ 9223372036854775807) (hn : -2147483648 ≤ n ∧ n ≤ 2147483647) (bf : -9223372036854775808 ≤ f ∧ f ≤ 9223372036854775807)
    (bo' : -9223372036854775808 ≤ op' ∧ op' ≤ 9223372036854775807) (hn' : -2147483648 ≤ n' ∧ n' ≤ 2147483647) (bf' : -9223372036854775808 ≤ f' ∧ f' ≤ 9223372036854775807) :
    Calls Tryd.prog 6 #[instV op a b n f, instV op' a' b' n' f'] w fun e w' => e = .returned (.bool true) ∧ Below w.heap.size w w' := by
  clear bo bf bo' bf'
  have hI0 := Hid.intro ((inst_new w op a b n f).alloc (.cells #[.int .i64 op', .int .i64 a', .int .i64 b', .int .i32 n', .int .i64 f'] 27))
  have hJ0 := Hid.intro (inst_new (w.alloc (.cells #[.int .i64 op, .int .i64 a, .int .i64 b, .int .i32 n, .int .i64 f] 27)) op' a' b' n' f')
  have hT0 := Hid.intro ((hT.alloc (.cells #[.int .i64 op, .int .i64 a, .int .i64 b, .int .i32 n, .int .i64 f] 27)).alloc (.cells #[.int .i64 op', .int .i64 a', .int .i64 b', .int .i32 n', .int .i64 f'] 27))
  have hw0 := Hid.intro ((below_alloc w (.cells #[.int .i64 op, .int .i64 a, .int .i64 b, .int .i32 n, .int .i64 f] 27)).alloc (by simp) (.cells #[.int .i64 op', .int .i64 a', .int .i64 b', .int .i32 n', .int .i64 f'] 27))
  rw [show (w.alloc (.cells #[.int .i64 op, .int .i64 a, .int .i64 b, .int .i32 n, .int .i64 f] 27)).heap.size = w.heap.size + 1 by simp] at hJ0
  have hnH := Hid.intro hn
  have hnH' := Hid.intro hn'
  obtain ⟨C, hC⟩ : ∃ C, checkN op a b n f = C := ⟨_, rfl⟩
  obtain ⟨C', hC'⟩ : ∃ C', checkN op' a' b' n' f' = C' := ⟨_, rfl⟩
  obtain ⟨L, hL⟩ : ∃ L, encR op a b n f = L := ⟨_, rfl⟩
  obtain ⟨L', hL'⟩ : ∃ L', encR op' a' b' n' f' = L' := ⟨_, rfl⟩
  have hE := Hid.intro (fun W hW => encode_at hC hL W hW hn)
  have hE' := Hid.intro (fun W hW => encode_at hC' hL' W hW hn')
  by_cases hD : (C = 0 ∧ C' = 0) ∧ ¬ (op = op' ∧ a = a' ∧ b = b' ∧ n = n' ∧ f = f')
  · obtain ⟨⟨rfl, rfl⟩, hne⟩ := hD
    have hL1 : L = encL op a b n f := by rw [← hL, encR, if_pos hC]
    have hL2 : L' = encL op' a' b' n' f' := by rw [← hL', encR, if_pos hC']
    have hA : Hid (∀ k : Nat, (k = L.length ∨ k = L'.length) → 0 < k → strOfNums (L.take k) ≠ strOfNums (L'.take k)) := fun k hk h0 he => hne (enc_apart hC hC' hn hn' k (hL1 ▸ hL2 ▸ hk) h0 (hL1 ▸ hL2 ▸ strOf_inj (areBytes_take _ (hL1 ▸ encL_bytes hC) _) (areBytes_take _ (hL2 ▸ encL_bytes hC') _) he))
    have hp1 : 0 < L.length := by obtain ⟨t, ht⟩ := encL_cons op a b n f; rw [hL1, ht]; simp
    have hp2 : 0 < L'.length := by obtain ⟨t, ht⟩ := encL_cons op' a' b' n' f'; rw [hL2, ht]; simp
    obtain ⟨K1, hK1⟩ : ∃ K1, K1 = L.length := ⟨_, rfl⟩
    obtain ⟨K2, hK2⟩ : ∃ K2, K2 = L'.length := ⟨_, rfl⟩
    have hle1 : K1 ≤ 7 := by rw [hK1, hL1]; exact encL_len _ _ _ _ _
    have hle2 : K2 ≤ 7 := by rw [hK2, hL2]; exact encL_len _ _ _ _ _
    have hp1' : 0 < K1 := by rw [hK1]; exact hp1
    have hp2' : 0 < K2 := by rw [hK2]; exact hp2
    replace hK1 := Hid.intro hK1
    replace hK2 := Hid.intro hK2
    clear hL1 hL2 hT hn hn' hC hC' hL hL' hp1 hp2
    by_cases hlt : K2 < K1
    · obtain ⟨S1, hS1⟩ : ∃ S1, strOfNums (L.take K2) = S1 := ⟨_, rfl⟩
      obtain ⟨S2, hS2⟩ : ∃ S2, strOfNums (L'.take K2) = S2 := ⟨_, rfl⟩
      have hSne : S1 ≠ S2 := by rw [← hS1, ← hS2]; exact hA.out K2 (.inr hK2.out) hp2'
      have hSb : (S1.toList == S2.toList) = false := str_ne hSne
      replace hS1 := Hid.intro hS1
      replace hS2 := Hid.intro hS2
      go_enter Tryd.func6, Tryd.ntmps6
      go_wp2_with (first
        | (go_at_call 8; (with_reducible refine (hE.out _ hT0.out).mono ?_); rintro e w1 ⟨a1, m1, c1, rfl, hs1, hb1⟩; obtain rfl : K1 = m1 := hK1.out.trans hs1.len.symm; have hT1 := Hid.intro (hT0.out.below hb1 hT0.out.size); have hI1 := Hid.intro (hI0.out.below hb1 hI0.out.lt); have hJ1 := Hid.intro (hJ0.out.below hb1 hJ0.out.lt); obtain ⟨i0, i1, i2, i3, i4, _⟩ := hI1.out; obtain ⟨j0, j1, j2, j3, j4, _⟩ := hJ1.out; have hw1 := Hid.intro (chain2 hw0.out hb1); have hcap1 := hs1.got.cap; rw [← hK1.out] at hcap1; replace hs1 := Hid.intro hs1; clear hb1)
        | (go_at_call 8; (with_reducible refine (hE'.out _ hT1.out).mono ?_); rintro e w2 ⟨a2, m2, c2, rfl, hs2, hb2⟩; obtain rfl : K2 = m2 := hK2.out.trans hs2.len.symm; have hT2 := Hid.intro (hT1.out.below hb2 hT1.out.size); have hI2 := Hid.intro (hI1.out.below hb2 hI1.out.lt); have hJ2 := Hid.intro (hJ1.out.below hb2 hJ1.out.lt); obtain ⟨ii0, ii1, ii2, ii3, ii4, _⟩ := hI2.out; obtain ⟨jj0, jj1, jj2, jj3, jj4, _⟩ := hJ2.out; have hw2 := Hid.intro (chain2 hw1.out hb2); have hs12 := Hid.intro (hs1.out.below hb2); have hcap2 := hs2.got.cap; rw [← hK2.out] at hcap2; replace hs2 := Hid.intro hs2; clear hb2))
      all_goals have k1 : ∀ p : BelowOf w2, (convert 22 9 (.slice a1 K2 c1)).run Tryd.prog p.wd = .ok (.string S1) p.wd := fun p => (by rw [← hS1.out]; exact conv_lies (by rw [List.length_take]; have := hK1.out; have := hK2.out; omega) (lies_take (hs12.out.lies.below p.h) _))
      all_goals have k2 : ∀ p : BelowOf w2, (convert 22 9 (.slice a2 K2 c2)).run Tryd.prog p.wd = .ok (.string S2) p.wd := fun p => (by rw [← hS2.out]; exact conv_lies (by rw [List.length_take]; have := hK1.out; have := hK2.out; omega) (lies_take (hs2.out.lies.below p.h) _))
      all_goals have hkc1 : K2 ≤ c1 := (by omega)
      all_goals have hkc2 : K2 ≤ c2 := hcap2
      all_goals have hkn := Hid.intro (known_all hT2.out)
      all_goals refine wp_region_quiet_below (by kernel_rfl) (by kernel_rfl) ?_
      all_goals repeat (first | (with_reducible refine wpQuiet_skip (by with_unfolding_all rfl) ?_; simp only [Act.put, List.setIfInBounds_toArray, List.set_cons_zero, List.set_cons_succ]) | (with_reducible refine wpQuiet_step (fun K hK => ?_); go_simp; first | (with_reducible refine hK _ ?_; clear hK K) | (apply Exists.intro; refine ⟨fun _ => ?_, hK _ ?_⟩; (go_at_call 10; with_reducible refine below_calls (hkn.out _)); clear hK K)))
      all_goals with_reducible refine wpQuiet_nil ?_
      all_goals intro _ hw'
      all_goals obtain ⟨pq, hw''⟩ := hw'
      all_goals subst hw''
      all_goals clear k1 k2
      all_goals go_wp2_with fail
      all_goals go_ret
      all_goals exact ⟨rfl, chain2 hw2.out pq.h⟩
    · obtain ⟨S1, hS1⟩ : ∃ S1, strOfNums (L.take K1) = S1 := ⟨_, rfl⟩
      obtain ⟨S2, hS2⟩ : ∃ S2, strOfNums (L'.take K1) = S2 := ⟨_, rfl⟩
      have hSne : S1 ≠ S2 := by rw [← hS1, ← hS2]; exact hA.out K1 (.inl hK1.out) hp1'
      have hSb : (S1.toList == S2.toList) = false := str_ne hSne
      replace hS1 := Hid.intro hS1
      replace hS2 := Hid.intro hS2
      go_enter Tryd.func6, Tryd.ntmps6
      go_wp2_with (first
        | (go_at_call 8; (with_reducible refine (hE.out _ hT0.out).mono ?_); rintro e w1 ⟨a1, m1, c1, rfl, hs1, hb1⟩; obtain rfl : K1 = m1 := hK1.out.trans hs1.len.symm; have hT1 := Hid.intro (hT0.out.below hb1 hT0.out.size); have hI1 := Hid.intro (hI0.out.below hb1 hI0.out.lt); have hJ1 := Hid.intro (hJ0.out.below hb1 hJ0.out.lt); obtain ⟨i0, i1, i2, i3, i4, _⟩ := hI1.out; obtain ⟨j0, j1, j2, j3, j4, _⟩ := hJ1.out; have hw1 := Hid.intro (chain2 hw0.out hb1); have hcap1 := hs1.got.cap; rw [← hK1.out] at hcap1; replace hs1 := Hid.intro hs1; clear hb1)
        | (go_at_call 8; (with_reducible refine (hE'.out _ hT1.out).mono ?_); rintro e w2 ⟨a2, m2, c2, rfl, hs2, hb2⟩; obtain rfl : K2 = m2 := hK2.out.trans hs2.len.symm; have hT2 := Hid.intro (hT1.out.below hb2 hT1.out.size); have hI2 := Hid.intro (hI1.out.below hb2 hI1.out.lt); have hJ2 := Hid.intro (hJ1.out.below hb2 hJ1.out.lt); obtain ⟨ii0, ii1, ii2, ii3, ii4, _⟩ := hI2.out; obtain ⟨jj0, jj1, jj2, jj3, jj4, _⟩ := hJ2.out; have hw2 := Hid.intro (chain2 hw1.out hb2); have hs12 := Hid.intro (hs1.out.below hb2); have hcap2 := hs2.got.cap; rw [← hK2.out] at hcap2; replace hs2 := Hid.intro hs2; clear hb2))
      all_goals have k1 : ∀ p : BelowOf w2, (convert 22 9 (.slice a1 K1 c1)).run Tryd.prog p.wd = .ok (.string S1) p.wd := fun p => (by rw [← hS1.out]; exact conv_lies (by rw [List.length_take]; have := hK1.out; have := hK2.out; omega) (lies_take (hs12.out.lies.below p.h) _))
      all_goals have k2 : ∀ p : BelowOf w2, (convert 22 9 (.slice a2 K1 c2)).run Tryd.prog p.wd = .ok (.string S2) p.wd := fun p => (by rw [← hS2.out]; exact conv_lies (by rw [List.length_take]; have := hK1.out; have := hK2.out; omega) (lies_take (hs2.out.lies.below p.h) _))
      all_goals have hkc1 : K1 ≤ c1 := hcap1
      all_goals have hkc2 : K1 ≤ c2 := (by omega)
      all_goals have hkn := Hid.intro (known_all hT2.out)
      all_goals refine wp_region_quiet_below (by kernel_rfl) (by kernel_rfl) ?_
      all_goals repeat (first | (with_reducible refine wpQuiet_skip (by with_unfolding_all rfl) ?_; simp only [Act.put, List.setIfInBounds_toArray, List.set_cons_zero, List.set_cons_succ]) | (with_reducible refine wpQuiet_step (fun K hK => ?_); go_simp; first | (with_reducible refine hK _ ?_; clear hK K) | (apply Exists.intro; refine ⟨fun _ => ?_, hK _ ?_⟩; (go_at_call 10; with_reducible refine below_calls (hkn.out _)); clear hK K)))
      all_goals with_reducible refine wpQuiet_nil ?_
      all_goals intro _ hw'
      all_goals obtain ⟨pq, hw''⟩ := hw'
      all_goals subst hw''
      all_goals clear k1 k2
      all_goals go_wp2_with fail
      all_goals go_ret
      all_goals exact ⟨rfl, chain2 hw2.out pq.h⟩
  · clear hT hn hn' hC hC' hL hL'
    go_enter Tryd.func6, Tryd.ntmps6
    go_wp2_with (first
      | (go_at_call 8; (with_reducible refine (hE.out _ hT0.out).mono ?_); rintro e w1 ⟨a1, m1, c1, rfl, hs1, hb1⟩; have hT1 := Hid.intro (hT0.out.below hb1 hT0.out.size); have hI1 := Hid.intro (hI0.out.below hb1 hI0.out.lt); have hJ1 := Hid.intro (hJ0.out.below hb1 hJ0.out.lt); obtain ⟨i0, i1, i2, i3, i4, _⟩ := hI1.out; obtain ⟨j0, j1, j2, j3, j4, _⟩ := hJ1.out; have hw1 := Hid.intro (chain2 hw0.out hb1); replace hs1 := Hid.intro hs1; clear hb1)
      | (go_at_call 8; (with_reducible refine (hE'.out _ hT1.out).mono ?_); rintro e w2 ⟨a2, m2, c2, rfl, hs2, hb2⟩; have hT2 := Hid.intro (hT1.out.below hb2 hT1.out.size); have hI2 := Hid.intro (hI1.out.below hb2 hI1.out.lt); have hJ2 := Hid.intro (hJ1.out.below hb2 hJ1.out.lt); obtain ⟨ii0, ii1, ii2, ii3, ii4, _⟩ := hI2.out; obtain ⟨jj0, jj1, jj2, jj3, jj4, _⟩ := hJ2.out; have hw2 := Hid.intro (chain2 hw1.out hb2); replace hs2 := Hid.intro hs2; clear hb2)
      | (go_at_call 10; (with_reducible refine (known_any _ hT2.out).mono ?_); rintro e w3 ⟨rfl, hb3⟩; replace hb3 := Hid.intro hb3))
    all_goals go_ret
    all_goals exact ⟨rfl, chain2 hw2.out hb3.out⟩
end Go.Proofs.YtmpckkogllnkkaaDoor
