/- The law IsaChecks, walked. -/
import Derived.Test.YtnlbfhjalnlngaaDoorRefK
namespace Go.Proofs.YtnlbfhjalnlngaaDoor
open Go.ChangeShapes Go.WideShapes Go.ChangeAt Go.RowKit
set_option linter.unusedVariables false
set_option maxRecDepth 100000

theorem num_zero {n f : Int} {s : Nat} (h : numB n f s = true) : spansB (s : Int) = false → f = 0 := fun hs => by
  unfold numB at h
  rw [hs] at h
  simp at h
  exact h.1

set_option maxHeartbeats 2000000 in
theorem checks_law (op a b n f : Int) (w : World) (hT : Tab w) (bo : -9223372036854775808 ≤ op ∧ op ≤ 9223372036854775807) (hn : -2147483648 ≤ n ∧ n ≤ 2147483647) (bf : -9223372036854775808 ≤ f ∧ f ≤ 9223372036854775807) :
    Calls Tryd.prog 5 #[instV op a b n f] w fun e w' => e = .returned (.bool true) ∧ Below w.heap.size w w' := by
  clear bo bf
  have hI := Hid.intro (inst_new w op a b n f)
  have hb0 := Hid.intro (below_alloc w (.cells #[.int .i64 op, .int .i64 a, .int .i64 b, .int .i32 n, .int .i64 f] 37))
  have hT0 := Hid.intro (hT.alloc (.cells #[.int .i64 op, .int .i64 a, .int .i64 b, .int .i32 n, .int .i64 f] 37))
  obtain ⟨C, hC⟩ : ∃ C, checkN op a b n f = C := ⟨_, rfl⟩
  obtain ⟨L, hL⟩ : ∃ L, lenN op a b n f = L := ⟨_, rfl⟩
  have hCH := Hid.intro hC
  have hLH := Hid.intro hL
  have hnH := Hid.intro hn
  by_cases h0 : C = 0
  · subst h0
    obtain ⟨hop, _, hm, hf⟩ := check_ok hC
    obtain ⟨s, hs, hs14, hsn⟩ := shape_nat op
    rw [hsn] at hm
    have hL2 : Hid (sizeAt s + f = L) := by show sizeAt s + f = L; rw [← hL, lenN, if_pos hC, hsn]
    have hs1 : 1 ≤ s := by have := shapeN_some hop; omega
    have hsz := Hid.intro (fun W => size_any op f s hs14 hs1 hs W hf (num_zero hm))
    clear hop hm hf hs hs14 hsn hs1 hn hT hC hL
    go_enter Tryd.func5, Tryd.ntmps5
    go_wp2_with (first | (go_at_call 22; refine (refCheck_any _ _ _ _ _ _ hnH.out).mono ?_; rintro e w1 ⟨rfl, hb1⟩; rw [hCH.out]; have hI1 := Hid.intro (hI.out.below hb1 hI.out.lt); obtain ⟨i0, i1, i2, i3, i4, _⟩ := hI1.out; have hT1 := Hid.intro (hT0.out.below hb1 hT0.out.size); have hw1 := Hid.intro (chain2 hb0.out hb1); clear hb1) | (go_at_call 23; refine (hsz.out _).mono ?_; rintro e w2 ⟨rfl, hb2⟩; rw [hL2.out]; have hI2 := Hid.intro (hI1.out.below hb2 hI1.out.lt); obtain ⟨j0, j1, j2, j3, j4, _⟩ := hI2.out; have hT2 := Hid.intro (hT1.out.below hb2 hT1.out.size); have hw2 := Hid.intro (chain2 hw1.out hb2); clear hb2) | (go_at_call 14; refine (check_any _ _ _ _ _ _ hT2.out hnH.out).mono ?_; rintro e w3 ⟨rfl, hb3⟩; rw [hCH.out]; have hI3 := Hid.intro (hI2.out.below hb3 hI2.out.lt); obtain ⟨k0, k1, k2, k3, k4, _⟩ := hI3.out; have hT3 := Hid.intro (hT2.out.below hb3 hT2.out.size); have hw3 := Hid.intro (chain2 hw2.out hb3); clear hb3) | (go_at_call 15; refine (len_any _ _ _ _ _ _ hT3.out hnH.out).mono ?_; rintro e w4 ⟨rfl, hb4⟩; rw [hLH.out]; have hT4 := Hid.intro (hT3.out.below hb4 hT3.out.size); have hw4 := Hid.intro (chain2 hw3.out hb4); clear hb4) | (go_at_call 16; refine (known_any _ hT4.out).mono ?_; rintro e w5 ⟨rfl, hb5⟩))
    all_goals go_ret
    all_goals exact ⟨rfl, chain2 hw4.out hb5⟩
  · have hL2 : Hid (L = 0) := by show L = 0; rw [← hL, lenN, if_neg (by rw [hC]; exact h0)]
    have e0 : (C == 0) = false := by simpa using h0
    clear hn hT hC hL h0
    go_enter Tryd.func5, Tryd.ntmps5
    go_wp2_with (first | (go_at_call 22; refine (refCheck_any _ _ _ _ _ _ hnH.out).mono ?_; rintro e w2 ⟨rfl, hb1⟩; rw [hCH.out]; have hI2 := Hid.intro (hI.out.below hb1 hI.out.lt); obtain ⟨i0, i1, i2, i3, i4, _⟩ := hI2.out; have hT2 := Hid.intro (hT0.out.below hb1 hT0.out.size); have hw2 := Hid.intro (chain2 hb0.out hb1); clear hb1) | (go_at_call 14; refine (check_any _ _ _ _ _ _ hT2.out hnH.out).mono ?_; rintro e w3 ⟨rfl, hb3⟩; rw [hCH.out]; have hI3 := Hid.intro (hI2.out.below hb3 hI2.out.lt); obtain ⟨k0, k1, k2, k3, k4, _⟩ := hI3.out; have hT3 := Hid.intro (hT2.out.below hb3 hT2.out.size); have hw3 := Hid.intro (chain2 hw2.out hb3); clear hb3) | (go_at_call 15; refine (len_any _ _ _ _ _ _ hT3.out hnH.out).mono ?_; rintro e w4 ⟨rfl, hb4⟩; rw [hLH.out, hL2.out]; have hT4 := Hid.intro (hT3.out.below hb4 hT3.out.size); have hw4 := Hid.intro (chain2 hw3.out hb4); clear hb4) | (go_at_call 16; refine (known_any _ hT4.out).mono ?_; rintro e w5 ⟨rfl, hb5⟩))
    all_goals go_ret
    all_goals exact ⟨rfl, chain2 hw4.out hb5⟩
end Go.Proofs.YtnlbfhjalnlngaaDoor
