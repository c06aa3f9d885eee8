/- The law EncodeEncodes, walked. -/
import Derived.Test.YtmpckkogllnkkaaDoorRefE
namespace Go.Proofs.YtmpckkogllnkkaaDoor
open Go.ChangeShapes Go.WideShapes Go.ChangeAt Go.RowKit
set_option linter.unusedVariables false
set_option maxRecDepth 100000

theorem same_held (a1 a2 : Option Addr) (m1 m2 c1 c2 lo1 lo2 : Nat) (xs : List Int) (w : World) (h1 : SlB w lo1 a1 m1 c1 xs) (h2 : SlB w lo2 a2 m2 c2 xs) (hm : xs.length ≤ 100000) :
    Calls Tryd.prog 12 #[.slice a1 m1 c1, .slice a2 m2 c2] w fun e w' => e = .returned (.bool true) ∧ Below w.heap.size w w' := by
  have e1 := h1.len
  have e2 := h2.len
  subst e1 e2
  exact same_bel a1 a2 c1 c2 xs w h1.lies h2.lies (by unfold maxLen; omega)

theorem encodes_law (op a b n f : Int) (w : World) (hT : Tab w) (bo : -9223372036854775808 ≤ op ∧ op ≤ 9223372036854775807) (hn : -2147483648 ≤ n ∧ n ≤ 2147483647) (bf : -9223372036854775808 ≤ f ∧ f ≤ 9223372036854775807) :
    Calls Tryd.prog 4 #[instV op a b n f] w fun e w' => e = .returned (.bool true) ∧ Below w.heap.size w w' := by
  clear bo bf
  have hI0 := Hid.intro (inst_new w op a b n f)
  have hw0 := Hid.intro (below_alloc w (.cells #[.int .i64 op, .int .i64 a, .int .i64 b, .int .i32 n, .int .i64 f] 27))
  have hT0 := Hid.intro (hT.alloc (.cells #[.int .i64 op, .int .i64 a, .int .i64 b, .int .i32 n, .int .i64 f] 27))
  have hE := Hid.intro (fun W hW => encode_held op a b n f W hW hn)
  have hR := Hid.intro (fun W => refEnc_held op a b n f W hn)
  have hlen := Hid.intro (encR_len op a b n f)
  obtain ⟨C, hC⟩ : ∃ C, C = checkN op a b n f := ⟨_, rfl⟩
  obtain ⟨L, hL⟩ : ∃ L, L = encR op a b n f := ⟨_, rfl⟩
  rw [← hC, ← hL] at hE
  rw [← hC, ← hL] at hR
  rw [← hL] at hlen
  clear hT hn hC hL
  go_enter Tryd.func4, Tryd.ntmps4
  go_wp2_with (first
    | (go_at_call 8; (with_reducible refine (hE.out _ hT0.out).mono ?_); rintro e w1 ⟨a1, m1, c1, rfl, hs1, hb1⟩; have hT1 := Hid.intro (hT0.out.below hb1 hT0.out.size); have hI1 := Hid.intro (hI0.out.below hb1 hI0.out.lt); obtain ⟨i0, i1, i2, i3, i4, _⟩ := hI1.out; have hw1 := Hid.intro (chain2 hw0.out hb1); replace hs1 := Hid.intro hs1; clear hb1)
    | (go_at_call 11; (with_reducible refine (hR.out _).mono ?_); rintro e w2 ⟨a2, m2, c2, rfl, hs2, hb2⟩; have hT2 := Hid.intro (hT1.out.below hb2 hT1.out.size); have hw2 := Hid.intro (chain2 hw1.out hb2); have hs12 := Hid.intro (hs1.out.below hb2); replace hs2 := Hid.intro hs2; clear hb2)
    | (go_at_call 12; (with_reducible refine (same_held _ _ _ _ _ _ _ _ L _ hs12.out hs2.out (by have := hlen.out; omega)).mono ?_); rintro e w3 ⟨rfl, hb3⟩; have hT3 := Hid.intro (hT2.out.below hb3 hT2.out.size); have hw3 := Hid.intro (chain2 hw2.out hb3); clear hb3)
    | (go_at_call 10; (with_reducible refine (known_any _ hT3.out).mono ?_); rintro e w4 ⟨rfl, hb4⟩; replace hb4 := Hid.intro hb4))
  all_goals go_ret
  all_goals exact ⟨rfl, chain2 hw3.out hb4.out⟩
end Go.Proofs.YtmpckkogllnkkaaDoor
