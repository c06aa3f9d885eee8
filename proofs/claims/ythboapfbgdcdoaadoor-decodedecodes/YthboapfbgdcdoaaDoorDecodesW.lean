/- The walk of DecodeDecodes. -/
import Derived.Test.YthboapfbgdcdoaaDoorRDecode
import Derived.Test.YthboapfbgdcdoaaDoorKnown
import Derived.Test.YthboapfbgdcdoaaDoorORoom
namespace Go.Proofs.YthboapfbgdcdoaaDoor
open Go.ChangeShapes Go.WideShapes Go.ChangeAt Go.RowKit
set_option linter.unusedVariables false
set_option maxRecDepth 100000

theorem BRow.slice {w : World} {g : Nat} {zs ys : List Int} (h : BRow w g (zs ++ ys)) (hz : AreBytes zs) : Lies w (some ⟨g, 0, none⟩) zs := h.lies hz

set_option maxHeartbeats 4000000 in
theorem decodes_law (a : Option Addr) (zs : List Int) (m cap : Nat) (hm : m = zs.length) (at' : Int) (w : World) (hT : Tab w) (hl : Lies w a zs) (hcap : m ≤ cap) (hml : m ≤ 140737488351232) (ha : -9223372036854775808 ≤ at' ∧ at' ≤ 9223372036854775807) :
    Calls Tryd.prog 4 #[.slice a m cap, .int .i64 at'] w fun e w' => e = .returned (.bool true) ∧ Below w.heap.size w w' := by
  have hRm : Hid (∀ W, Lies W a zs → Calls Tryd.prog 11 #[.slice a m cap, .int .u8 165] W fun e w' => e = .returned (.slice (some ⟨W.heap.size, 0, none⟩) (m + 80) (m + 80)) ∧ BRow w' W.heap.size (zs ++ List.replicate 80 165) ∧ Below W.heap.size W w') := by
    subst hm
    exact fun W hW => roomy_any a cap zs 165 W hW (by omega)
  have hDe := Hid.intro (fun a' c' W hW hL hc => decode_any a' c' m zs at' W hm hW hL hc (by omega) ha)
  have hRf := Hid.intro (fun W hW hL => refDecode_any a cap m zs at' W hm hW hL hcap (by omega) ha)
  have hIn : Hid (∀ W g, Lies W a zs → BRow W g (zs ++ List.replicate 80 165) → Calls Tryd.prog 13 #[.slice (some ⟨g, 0, none⟩) (m + 80) (m + 80), .slice a m cap, .int .u8 165] W fun e w' => e = .returned (.bool true) ∧ Below W.heap.size W w') := by
    subst hm
    exact fun W g hL hr => (intact_any a g cap zs 165 W hL hr (by omega)).mono fun e w' ⟨he, n, hn⟩ => ⟨he, hn ▸ below_drewN (Below.refl _ _) n⟩
  have hbz := Hid.intro hl.1
  have hTH := Hid.intro hT
  have hlH := Hid.intro hl
  unfold decV at hDe hRf
  generalize decX zs at' = X at *
  generalize decL zs at' = L at *
  generalize decE zs at' = E at *
  obtain ⟨xo, xa, xb, xn, xf⟩ := X
  unfold Ins.val at hDe hRf
  simp only at hDe hRf
  clear hT hl hm
  go_enter Tryd.func4, Tryd.ntmps4
  go_wp2_with (first
    | (go_at_call 11; (with_reducible refine (hRm.out _ hlH.out).mono ?_); rintro e w1 ⟨rfl, hr1, hb1⟩; have hT1 := Hid.intro (hTH.out.below hb1 hTH.out.size); have hl1 := Hid.intro (hlH.out.below hb1); replace hb1 := Hid.intro hb1; replace hr1 := Hid.intro hr1)
    | (go_at_call 8; (with_reducible refine (hDe.out _ _ _ hT1.out (hr1.out.slice hbz.out) (by omega)).mono ?_); rintro e w2 ⟨rfl, hb2⟩; have hb3 := Hid.intro (chain2 hb2 (below_alloc w2 (.cells #[.int .i64 xo, .int .i64 xa, .int .i64 xb, .int .i32 xn, .int .i64 xf] 26))); have hT3 := Hid.intro (hT1.out.below hb3.out hT1.out.size); have hl3 := Hid.intro (hl1.out.below hb3.out); have hr3 := Hid.intro (hr1.out.below hb3.out hr1.out.lt); have hI3 := Hid.intro (inst_new w2 xo xa xb xn xf); clear hb2)
    | (go_at_call 12; (with_reducible refine (hRf.out _ hT3.out hl3.out).mono ?_); rintro e w4 ⟨rfl, hb4⟩; have hb5 := Hid.intro (chain2 hb4 (below_alloc w4 (.cells #[.int .i64 xo, .int .i64 xa, .int .i64 xb, .int .i32 xn, .int .i64 xf] 26))); have hT5 := Hid.intro (hT3.out.below hb5.out hT3.out.size); have hl5 := Hid.intro (hl3.out.below hb5.out); have hr5 := Hid.intro (hr3.out.below hb5.out hr3.out.lt); obtain ⟨i0, i1, i2, i3, i4, _⟩ := hI3.out.below hb5.out hI3.out.lt; obtain ⟨j0, j1, j2, j3, j4, _⟩ := inst_new w4 xo xa xb xn xf; clear hb4)
    | (go_at_call 13; (with_reducible refine (hIn.out _ _ hl5.out hr5.out).mono ?_); rintro e w6 ⟨rfl, hb6⟩; have hT6 := Hid.intro (hT5.out.below hb6 hT5.out.size); replace hb6 := Hid.intro hb6)
    | (go_at_call 10; (with_reducible refine (known_any _ hT6.out).mono ?_); rintro e w7 ⟨rfl, hb7⟩; replace hb7 := Hid.intro hb7))
  go_ret
  exact ⟨rfl, chain2 (chain2 (chain2 (chain2 hb1.out hb3.out) hb5.out) hb6.out) hb7.out⟩
end Go.Proofs.YthboapfbgdcdoaaDoor
