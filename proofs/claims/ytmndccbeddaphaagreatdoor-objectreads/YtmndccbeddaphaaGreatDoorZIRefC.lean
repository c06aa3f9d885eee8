/- IRefC: what the document's Right wants besides. -/
import Derived.Test.YtmndccbeddaphaaGreatDoorZIRefF
namespace Go.Proofs.YtmndccbeddaphaaGreatDoor
open Go.ChangeShapes Go.WideShapes Go.ChangeAt Go.RowKit
set_option linter.unusedVariables false
set_option maxRecDepth 100000
theorem chain2 {w w1 w2 : World} (a : Below w.heap.size w w1) (b : Below w1.heap.size w1 w2) : Below w.heap.size w w2 := a.trans (b.mono a.size)
theorem aMax0 : aMax 0 = 0 := by decide +kernel
theorem aMax1 : aMax 1 = 0 := by decide +kernel
theorem aMax2 : aMax 2 = 7 := by decide +kernel
theorem aMax3 : aMax 3 = 3 := by decide +kernel
theorem aMax4 : aMax 4 = 7 := by decide +kernel
theorem aMax5 : aMax 5 = 3 := by decide +kernel
theorem aMax6 : aMax 6 = 7 := by decide +kernel
theorem aMax7 : aMax 7 = 3 := by decide +kernel
theorem aMax8 : aMax 8 = 7 := by decide +kernel
theorem aMax9 : aMax 9 = 0 := by decide +kernel
theorem aMax10 : aMax 10 = 7 := by decide +kernel
theorem aMax11 : aMax 11 = 7 := by decide +kernel
theorem aMax12 : aMax 12 = 0 := by decide +kernel
theorem aMax13 : aMax 13 = 7 := by decide +kernel
theorem bMax0 : bMax 0 = 0 := by decide +kernel
theorem bMax1 : bMax 1 = 0 := by decide +kernel
theorem bMax2 : bMax 2 = 0 := by decide +kernel
theorem bMax3 : bMax 3 = 0 := by decide +kernel
theorem bMax4 : bMax 4 = 7 := by decide +kernel
theorem bMax5 : bMax 5 = 3 := by decide +kernel
theorem bMax6 : bMax 6 = 3 := by decide +kernel
theorem bMax7 : bMax 7 = 7 := by decide +kernel
theorem bMax8 : bMax 8 = 0 := by decide +kernel
theorem bMax9 : bMax 9 = 0 := by decide +kernel
theorem bMax10 : bMax 10 = 0 := by decide +kernel
theorem bMax11 : bMax 11 = 0 := by decide +kernel
theorem bMax12 : bMax 12 = 0 := by decide +kernel
theorem bMax13 : bMax 13 = 0 := by decide +kernel
theorem nMin0 : nMin 0 = 0 := by decide +kernel
theorem nMin1 : nMin 1 = 0 := by decide +kernel
theorem nMin2 : nMin 2 = 0 := by decide +kernel
theorem nMin3 : nMin 3 = 0 := by decide +kernel
theorem nMin4 : nMin 4 = 0 := by decide +kernel
theorem nMin5 : nMin 5 = 0 := by decide +kernel
theorem nMin6 : nMin 6 = 0 := by decide +kernel
theorem nMin7 : nMin 7 = 0 := by decide +kernel
theorem nMin8 : nMin 8 = -128 := by decide +kernel
theorem nMin9 : nMin 9 = 0 := by decide +kernel
theorem nMin10 : nMin 10 = -2147483648 := by decide +kernel
theorem nMin11 : nMin 11 = 0 := by decide +kernel
theorem nMin12 : nMin 12 = 0 := by decide +kernel
theorem nMin13 : nMin 13 = 0 := by decide +kernel
theorem nMax0 : nMax 0 = 0 := by decide +kernel
theorem nMax1 : nMax 1 = 0 := by decide +kernel
theorem nMax2 : nMax 2 = 0 := by decide +kernel
theorem nMax3 : nMax 3 = 0 := by decide +kernel
theorem nMax4 : nMax 4 = 0 := by decide +kernel
theorem nMax5 : nMax 5 = 0 := by decide +kernel
theorem nMax6 : nMax 6 = 0 := by decide +kernel
theorem nMax7 : nMax 7 = 7 := by decide +kernel
theorem nMax8 : nMax 8 = 127 := by decide +kernel
theorem nMax9 : nMax 9 = 255 := by decide +kernel
theorem nMax10 : nMax 10 = 2147483647 := by decide +kernel
theorem nMax11 : nMax 11 = 4095 := by decide +kernel
theorem nMax12 : nMax 12 = 0 := by decide +kernel
theorem nMax13 : nMax 13 = 0 := by decide +kernel
theorem lim_cases (s : Nat) (hs : s < 14) : s = 0 ∨ s = 1 ∨ s = 2 ∨ s = 3 ∨ s = 4 ∨ s = 5 ∨ s = 6 ∨ s = 7 ∨ s = 8 ∨ s = 9 ∨ s = 10 ∨ s = 11 ∨ s = 12 ∨ s = 13 := by omega
set_option maxHeartbeats 4000000 in
theorem registers_any (op a b n f : Int) (s : Nat) (hs : s < 14) (hS : shapeN op = (s : Int)) (w : World) :
    Calls Tryz.prog 120 #[instV op a b n f] w fun e w' => e = .returned (.bool (regB a b n s)) ∧ Below w.heap.size w w' := by
  have hI := Hid.intro (inst_new w op a b n f)
  have hb0 := Hid.intro (ibelow_alloc w (.cells #[.int .i64 op, .int .i64 a, .int .i64 b, .int .i32 n, .int .i64 f] 81))
  have hSH := Hid.intro hS
  obtain ⟨R, hR⟩ : ∃ R, R = regB a b n s := ⟨_, rfl⟩
  rw [← hR]
  have hRH := Hid.intro hR
  clear hS hR
  rcases lim_cases s hs with rfl | rfl | rfl | rfl | rfl | rfl | rfl | rfl | rfl | rfl | rfl | rfl | rfl | rfl
  all_goals
    go_enter Tryz.func120, Tryz.ntmps120
    go_wp2_with (go_at_call 119; refine (shape_any _ _).mono ?_; rintro e w1 ⟨rfl, hb1⟩; rw [hSH.out]; have hI1 := Hid.intro (hI.out.below hb1 hI.out.lt); obtain ⟨i0, i1, i2, i3, i4, _⟩ := hI1.out; have hw1 := Hid.intro (chain2 hb0.out hb1); clear hb1)
    all_goals go_ret
    all_goals refine ⟨?_, hw1.out⟩
    all_goals rw [hRH.out]
    all_goals refine congrArg (fun b => Ending.returned (Value.bool b)) ?_
    all_goals rw [Bool.eq_iff_iff]
    all_goals simp [regB, aMax0, aMax1, aMax2, aMax3, aMax4, aMax5, aMax6, aMax7, aMax8, aMax9, aMax10, aMax11, aMax12, aMax13, bMax0, bMax1, bMax2, bMax3, bMax4, bMax5, bMax6, bMax7, bMax8, bMax9, bMax10, bMax11, bMax12, bMax13, nMin0, nMin1, nMin2, nMin3, nMin4, nMin5, nMin6, nMin7, nMin8, nMin9, nMin10, nMin11, nMin12, nMin13, nMax0, nMax1, nMax2, nMax3, nMax4, nMax5, nMax6, nMax7, nMax8, nMax9, nMax10, nMax11, nMax12, nMax13]
    all_goals first | omega | (simp only [bne_iff_ne, ne_eq, bne_eq_false_iff_eq] at *; omega)
end Go.Proofs.YtmndccbeddaphaaGreatDoor
