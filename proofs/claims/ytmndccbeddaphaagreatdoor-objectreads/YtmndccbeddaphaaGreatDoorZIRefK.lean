/- IRefK: what the document's Right wants besides. -/
import Derived.Test.YtmndccbeddaphaaGreatDoorZIRefC
namespace Go.Proofs.YtmndccbeddaphaaGreatDoor
open Go.ChangeShapes Go.WideShapes Go.ChangeAt Go.RowKit
set_option linter.unusedVariables false
set_option maxRecDepth 100000
set_option maxHeartbeats 4000000 in
theorem refCheck_any (op a b n f : Int) (w : World) (hn : -2147483648 ≤ n ∧ n ≤ 2147483647) :
    Calls Tryz.prog 95 #[instV op a b n f] w fun e w' => e = .returned (.int .i64 (checkN op a b n f)) ∧ Below w.heap.size w w' := by
  obtain ⟨s, hs, hs14, hsn⟩ := shape_nat op
  have hI := Hid.intro (inst_new w op a b n f)
  have hb0 := Hid.intro (ibelow_alloc w (.cells #[.int .i64 op, .int .i64 a, .int .i64 b, .int .i32 n, .int .i64 f] 81))
  have hSH := Hid.intro hs
  obtain ⟨R, hR⟩ : ∃ R, R = checkN op a b n f := ⟨_, rfl⟩
  rw [← hR]
  unfold checkN at hR
  rw [hsn] at hR
  by_cases hop : 1 ≤ op ∧ op ≤ 43
  · rw [if_neg (by simpa using hop)] at hR
    have hs1 : 1 ≤ s := by have := shapeN_some hop; omega
    have e0 : ((s : Int) == 0) = false := by simp; omega
    cases hr : regB a b n s with
    | false =>
      rw [if_pos hr] at hR
      subst hR
      have hrH := Hid.intro hr
      clear hr hop hs hsn
      go_enter Tryz.func95, Tryz.ntmps95
      go_wp2_with (first | (go_at_call 119; refine (shape_any _ _).mono ?_; rintro e w1 ⟨rfl, hb1⟩; rw [hSH.out]; have hI1 := Hid.intro (hI.out.below hb1 hI.out.lt); obtain ⟨i0, i1, i2, i3, i4, _⟩ := hI1.out; have hw1 := Hid.intro (chain2 hb0.out hb1); clear hb1) | (go_at_call 120; refine (registers_any _ _ _ _ _ s hs14 hSH.out _).mono ?_; rintro e w2 ⟨rfl, hb2⟩; rw [hrH.out]; have hw2 := Hid.intro (chain2 hw1.out hb2); clear hb2))
      all_goals go_ret
      all_goals exact ⟨rfl, hw2.out⟩
    | true =>
      rw [if_neg (by simp [hr])] at hR
      have hRH := Hid.intro hR
      have h7 : Hid (s = 7 → 0 ≤ n ∧ n ≤ 7) := fun e => by
        subst e
        simp [regB, nMin7, nMax7] at hr
        omega
      have hrH := Hid.intro hr
      clear hr hop hs hsn hR
      rcases lim_cases s hs14 with rfl | rfl | rfl | rfl | rfl | rfl | rfl | rfl | rfl | rfl | rfl | rfl | rfl | rfl
      · omega
      all_goals
        clear e0
        go_enter Tryz.func95, Tryz.ntmps95
        go_wp2_with (first | (go_at_call 119; refine (shape_any _ _).mono ?_; rintro e w1 ⟨rfl, hb1⟩; rw [hSH.out]; have hI1 := Hid.intro (hI.out.below hb1 hI.out.lt); obtain ⟨i0, i1, i2, i3, i4, _⟩ := hI1.out; have hw1 := Hid.intro (chain2 hb0.out hb1); clear hb1) | (go_at_call 120; refine (registers_any _ _ _ _ _ _ hs14 hSH.out _).mono ?_; rintro e w2 ⟨rfl, hb2⟩; rw [hrH.out]; have hI2 := Hid.intro (hI1.out.below hb2 hI1.out.lt); obtain ⟨j0, j1, j2, j3, j4, _⟩ := hI2.out; have hw2 := Hid.intro (chain2 hw1.out hb2); clear hb2) | (go_at_call 121; refine (fits_any _ _ _).mono ?_; rintro e w3 ⟨rfl, hw3⟩; subst hw3))
        all_goals go_ret
        all_goals refine ⟨?_, hw2.out⟩
        all_goals rw [hRH.out]
        all_goals refine congrArg (fun z => Ending.returned (Value.int IntKind.i64 z)) ?_
        all_goals simp [numB, spansB, nMin1, nMin2, nMin3, nMin4, nMin5, nMin6, nMin7, nMin8, nMin9, nMin10, nMin11, nMax1, nMax2, nMax3, nMax4, nMax5, nMax6, nMax7, nMax8, nMax9, nMax10, nMax11]
        all_goals first | omega | (simp at *; done) | (simp at *; omega) | (simp at *; assumption) | (simp at *; simp [fitsB, *]; done) | (rename_i hx; simp at hx; simp only [*]; done) | (rename_i hx; have hf0 : f = 0 := (by simpa using hx); have h70 : 0 ≤ n ∧ n ≤ 7 := h7.out (by trivial); exact ⟨hf0, h70⟩)
  · rw [if_pos hop] at hR
    subst hR
    have hs0 : s = 0 := by rw [shapeN, if_neg hop] at hs; omega
    subst hs0
    clear hop hs hsn
    go_enter Tryz.func95, Tryz.ntmps95
    go_wp2_with (go_at_call 119; refine (shape_any _ _).mono ?_; rintro e w1 ⟨rfl, hb1⟩; rw [hSH.out]; have hw1 := Hid.intro (chain2 hb0.out hb1); clear hb1)
    all_goals go_ret
    all_goals exact ⟨rfl, hw1.out⟩
end Go.Proofs.YtmndccbeddaphaaGreatDoor
