/- The law EncodeNumbers, walked. -/
import Derived.Test.YtmpckkogllnkkaaDoorAll1
namespace Go.Proofs.YtmpckkogllnkkaaDoor
open Go.ChangeShapes Go.WideShapes Go.ChangeAt Go.RowKit
set_option linter.unusedVariables false
set_option maxRecDepth 100000

theorem nc1 : checkN 2 0 0 0 0 = 0 := by decide +kernel
theorem nl1 : encR 2 0 0 0 0 = [1] := by decide +kernel
theorem ns1 : strOfNums [1] = ⟨#[1]⟩ := by decide +kernel
theorem nc2 : checkN 13 1 2 0 0 = 0 := by decide +kernel
theorem nl2 : encR 13 1 2 0 0 = [16, 18] := by decide +kernel
theorem ns2 : strOfNums [16, 18] = ⟨#[16, 18]⟩ := by decide +kernel
theorem nc3 : checkN 40 0 0 (-3) 1 = 0 := by decide +kernel
theorem nl3 : encR 40 0 0 (-3) 1 = [64, 253] := by decide +kernel
theorem ns3 : strOfNums [64, 253] = ⟨#[64, 253]⟩ := by decide +kernel
theorem nc4 : checkN 42 2 0 300 2 = 0 := by decide +kernel
theorem nl4 : encR 42 2 0 300 2 = [71, 2, 44, 1] := by decide +kernel
theorem ns4 : strOfNums [71, 2, 44, 1] = ⟨#[71, 2, 44, 1]⟩ := by decide +kernel
theorem nc5 : checkN 35 1 2 3 0 = 0 := by decide +kernel
theorem nl5 : encR 35 1 2 3 0 = [38, 1, 35] := by decide +kernel
theorem ns5 : strOfNums [38, 1, 35] = ⟨#[38, 1, 35]⟩ := by decide +kernel
theorem nc6 : checkN 39 0 0 4095 0 = 0 := by decide +kernel
theorem nl6 : encR 39 0 0 4095 0 = [51, 0, 255, 15] := by decide +kernel
theorem ns6 : strOfNums [51, 0, 255, 15] = ⟨#[51, 0, 255, 15]⟩ := by decide +kernel

def twoI : List Ins := [⟨2, 0, 0, 0, 0⟩, ⟨0, 0, 0, 0, 0⟩]
theorem two_n : allN twoI = 1 := by decide +kernel
theorem two_e : allE twoI = 11 := by decide +kernel
theorem two_l : allL twoI = [] := by decide +kernel

theorem two_lies (w : World) : ILies (w.alloc (.cells #[.int .i64 2, .int .i64 0, .int .i64 0, .int .i32 0, .int .i64 0, .int .i64 0, .int .i64 0, .int .i64 0, .int .i32 0, .int .i64 0] 27)) (some ⟨w.heap.size, 0, none⟩) twoI := by
  have hc := fun j => cell_block (heap_alloc_new w (.cells #[.int .i64 2, .int .i64 0, .int .i64 0, .int .i32 0, .int .i64 0, .int .i64 0, .int .i64 0, .int .i64 0, .int .i32 0, .int .i64 0] 27)) j
  refine ⟨fun x hx => ?_, .inr ⟨_, 0, rfl, fun i x hx => ?_⟩⟩
  · simp [twoI] at hx
    rcases hx with rfl | rfl <;> exact ⟨by simp, by simp⟩
  · match i, hx with
    | 0, hx =>
      cases hx
      exact ⟨hc 0, hc 1, hc 2, hc 3, hc 4⟩
    | 1, hx =>
      cases hx
      exact ⟨hc 5, hc 6, hc 7, hc 8, hc 9⟩
    | i + 2, hx => simp [twoI] at hx

theorem all_two (w : World) (hT : Tab w) :
    Calls Tryd.prog 9 #[.slice (some ⟨w.heap.size, 0, none⟩) 2 2] (w.alloc (.cells #[.int .i64 2, .int .i64 0, .int .i64 0, .int .i32 0, .int .i64 0, .int .i64 0, .int .i64 0, .int .i64 0, .int .i32 0, .int .i64 0] 27)) fun e w' => (∃ a c, e = .returned (.tuple #[.slice a 0 c, .int .i64 1, .int .i64 11])) ∧ Below w.heap.size w w' := by
  refine (all_any _ 2 twoI 2 rfl _ (hT.alloc _) (two_lies w) (by decide)).mono ?_
  rintro e w' ⟨a', k, c', rfl, hs, hb⟩
  rw [two_n, two_e]
  rw [two_l] at hs
  obtain rfl : k = 0 := hs.len
  exact ⟨⟨_, _, rfl⟩, chain2 (below_alloc w _) hb⟩

set_option maxHeartbeats 2000000 in
theorem numbers_law (w : World) (hT : Tab w) :
    Calls Tryd.prog 3 #[] w fun e w' => e = .returned (.bool true) ∧ Below w.heap.size w w' := by
  have hT0 := Hid.intro hT
  have hw0 := Hid.intro (Below.refl w.heap.size w)
  clear hT
  go_enter Tryd.func3, Tryd.ntmps3
  go_wp2_with (first
    | (go_at_call 8; (with_reducible refine (encode_at nc1 nl1 _ hT0.out (by omega)).mono ?_); rintro e w1 ⟨a1, m1, c1, rfl, hs1, hb1⟩; have hT1 := Hid.intro (hT0.out.below hb1 hT0.out.size); have hw1 := Hid.intro (chain2 hw0.out hb1); have hs11 := Hid.intro hs1; clear hs1 hb1)
    | (go_at_call 8; (with_reducible refine (encode_at nc2 nl2 _ hT1.out (by omega)).mono ?_); rintro e w2 ⟨a2, m2, c2, rfl, hs2, hb2⟩; have hT2 := Hid.intro (hT1.out.below hb2 hT1.out.size); have hw2 := Hid.intro (chain2 hw1.out hb2); have hs12 := Hid.intro (hs11.out.below hb2); have hs22 := Hid.intro hs2; clear hs2 hb2)
    | (go_at_call 8; (with_reducible refine (encode_at nc3 nl3 _ hT2.out (by omega)).mono ?_); rintro e w3 ⟨a3, m3, c3, rfl, hs3, hb3⟩; have hT3 := Hid.intro (hT2.out.below hb3 hT2.out.size); have hw3 := Hid.intro (chain2 hw2.out hb3); have hs13 := Hid.intro (hs12.out.below hb3); have hs23 := Hid.intro (hs22.out.below hb3); have hs33 := Hid.intro hs3; clear hs3 hb3)
    | (go_at_call 8; (with_reducible refine (encode_at nc4 nl4 _ hT3.out (by omega)).mono ?_); rintro e w4 ⟨a4, m4, c4, rfl, hs4, hb4⟩; have hT4 := Hid.intro (hT3.out.below hb4 hT3.out.size); have hw4 := Hid.intro (chain2 hw3.out hb4); have hs14 := Hid.intro (hs13.out.below hb4); have hs24 := Hid.intro (hs23.out.below hb4); have hs34 := Hid.intro (hs33.out.below hb4); have hs44 := Hid.intro hs4; clear hs4 hb4)
    | (go_at_call 8; (with_reducible refine (encode_at nc5 nl5 _ hT4.out (by omega)).mono ?_); rintro e w5 ⟨a5, m5, c5, rfl, hs5, hb5⟩; have hT5 := Hid.intro (hT4.out.below hb5 hT4.out.size); have hw5 := Hid.intro (chain2 hw4.out hb5); have hs15 := Hid.intro (hs14.out.below hb5); have hs25 := Hid.intro (hs24.out.below hb5); have hs35 := Hid.intro (hs34.out.below hb5); have hs45 := Hid.intro (hs44.out.below hb5); have hs55 := Hid.intro hs5; clear hs5 hb5)
    | (go_at_call 8; (with_reducible refine (encode_at nc6 nl6 _ hT5.out (by omega)).mono ?_); rintro e w6 ⟨a6, m6, c6, rfl, hs6, hb6⟩; have hT6 := Hid.intro (hT5.out.below hb6 hT5.out.size); have hw6 := Hid.intro (chain2 hw5.out hb6); have hs16 := Hid.intro (hs15.out.below hb6); have hs26 := Hid.intro (hs25.out.below hb6); have hs36 := Hid.intro (hs35.out.below hb6); have hs46 := Hid.intro (hs45.out.below hb6); have hs56 := Hid.intro (hs55.out.below hb6); have hs66 := Hid.intro hs6; clear hs6 hb6)
    | (go_at_call 9; (with_reducible refine (all_two _ hT6.out).mono ?_); rintro e w7 ⟨⟨a7, c7, rfl⟩, hb7⟩; have hT7 := Hid.intro (hT6.out.below hb7 hT6.out.size); have hw7 := Hid.intro (chain2 hw6.out hb7); have hs17 := Hid.intro (hs16.out.below hb7); have hs27 := Hid.intro (hs26.out.below hb7); have hs37 := Hid.intro (hs36.out.below hb7); have hs47 := Hid.intro (hs46.out.below hb7); have hs57 := Hid.intro (hs56.out.below hb7); have hs67 := Hid.intro (hs66.out.below hb7); clear hb7)
    | (go_at_call 9; (with_reducible refine (all_nil _ none 0).mono ?_); rintro e w8 ⟨rfl, rfl⟩; have k1 := conv_lies (c := c1) hs17.out.len hs17.out.lies; rw [ns1] at k1; have k2 := conv_lies (c := c2) hs27.out.len hs27.out.lies; rw [ns2] at k2; have k3 := conv_lies (c := c3) hs37.out.len hs37.out.lies; rw [ns3] at k3; have k4 := conv_lies (c := c4) hs47.out.len hs47.out.lies; rw [ns4] at k4; have k5 := conv_lies (c := c5) hs57.out.len hs57.out.lies; rw [ns5] at k5; have k6 := conv_lies (c := c6) hs67.out.len hs67.out.lies; rw [ns6] at k6)
    | (go_at_call 10; (with_reducible refine (known_any _ hT7.out).mono ?_); rintro e w9 ⟨rfl, hb9⟩; replace hb9 := Hid.intro hb9))
  all_goals go_ret
  all_goals exact ⟨rfl, chain2 hw7.out hb9.out⟩
end Go.Proofs.YtmpckkogllnkkaaDoor
