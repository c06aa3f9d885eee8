/- UnitKept, of any text. -/
import Derived.Test.YtogkchgjpflmjaaGreatDoorKp1
import Derived.Test.YtogkchgjpflmjaaGreatDoorNms
import Derived.Test.YtogkchgjpflmjaaGreatDoorSmU
namespace Go.Proofs.YtogkchgjpflmjaaGreatDoor
open Go.ChangeShapes Go.WideShapes Go.ChangeAt Go.RowKit Go.Sort
set_option linter.unusedVariables false
set_option linter.unusedSimpArgs false
set_option maxRecDepth 100000
set_option maxHeartbeats 16000000 in
theorem kept_any (l : List UInt8) (h1 : l.length <= 9223372036854775807) (w : World) (hE : Env w) :
  Calls Tryz.prog 8 #[.string (str l)] w fun e w' => e = .returned (.bool true) /\ Below w.heap.size w w' := by
 have f1 : Hid (∀ W, Calls Tryz.prog 16 #[.string (str l), .int .i64 1000] W fun e w' => e = .returned (.string (str (l.take 1000))) /\ w' = W) := fun W => few9 l 1000 h1 (by omega) W
 obtain ⟨U, ok, hu, hr, hsn, hnl, ha⟩ := asb_two (l.take 1000)
 have haH := Hid.intro ha
 have huH := Hid.intro hu
 have hrH := Hid.intro hr
 have hsnH := Hid.intro hsn
 have hnlH := Hid.intro hnl
 have hEH := Hid.intro hE
 have hkn := Hid.intro known_any
 clear h1 hE ha hu hr hsn hnl
 generalize str (l.take 1000) = S at *
 generalize str l = S0 at *
 go_enter Tryz.func8, Tryz.ntmps8
 go_upto_region 3 with (first
  | (go_at_call 16; (with_reducible refine (f1.out _).mono ?_); rintro e w1 ⟨rfl, hw1⟩; subst w1)
  | (go_at_call 9; (with_reducible refine (haH.out _ hEH.out).mono ?_); rintro e w1 ⟨hb1, ta, tc, da, dc, ea, ec, ga, gc, er, pt, pd, pe, rfl, her, hK1, hn1⟩; replace her := Hid.intro her; replace hK1 := Hid.intro hK1; replace hb1 := Hid.intro hb1; clear hn1))
 all_goals first | omega | skip
 have hB1 : Hid (Below w.heap.size w (w1.alloc (.cells #[.slice ta U.text.length tc, .slice da U.data.length dc, .slice ea U.equs.length ec, .slice ga U.globs.length gc] 26))) := hb1.out.alloc hb1.out.size _
 have hU1 : Hid (UnitIn (w1.alloc (.cells #[.slice ta U.text.length tc, .slice da U.data.length dc, .slice ea U.equs.length ec, .slice ga U.globs.length gc] 26)) ta da ea ga U) := hK1.out.inn.below (below_alloc w1 _)
 have hS1 : Hid (UnitSrc (w1.alloc (.cells #[.slice ta U.text.length tc, .slice da U.data.length dc, .slice ea U.equs.length ec, .slice ga U.globs.length gc] 26)) ta da ea ga gc U) := hK1.out.src.below (below_alloc w1 _)
 have hx1 : Hid ((w1.alloc (.cells #[.slice ta U.text.length tc, .slice da U.data.length dc, .slice ea U.equs.length ec, .slice ga U.globs.length gc] 26)).heap[w1.heap.size]? = some (.cells #[.slice ta U.text.length tc, .slice da U.data.length dc, .slice ea U.equs.length ec, .slice ga U.globs.length gc] 26 (0, 0))) := heap_alloc_new w1 _
 clear hK1 hb1
 generalize w1.alloc (.cells #[.slice ta U.text.length tc, .slice da U.data.length dc, .slice ea U.equs.length ec, .slice ga U.globs.length gc] 26) = W1 at *
 generalize w1.heap.size = g1 at *
 go_upto_region 4 with (go_at_call 9; (with_reducible refine (haH.out _ (hEH.out.below hB1.out)).mono ?_); rintro e w2 ⟨hb2, ta2, tc2, da2, dc2, ea2, ec2, ga2, gc2, er2, pt2, pd2, pe2, rfl, her2, hK2, hn2⟩; replace hK2 := Hid.intro hK2; replace hb2 := Hid.intro hb2; replace hn2 := Hid.intro hn2; clear her2)
 all_goals first | omega | skip
 have hB12 : Hid (Below W1.heap.size W1 (w2.alloc (.cells #[.slice ta2 U.text.length tc2, .slice da2 U.data.length dc2, .slice ea2 U.equs.length ec2, .slice ga2 U.globs.length gc2] 26))) := hb2.out.alloc hb2.out.size _
 have hB22 : Hid (Below w2.heap.size w2 (w2.alloc (.cells #[.slice ta2 U.text.length tc2, .slice da2 U.data.length dc2, .slice ea2 U.equs.length ec2, .slice ga2 U.globs.length gc2] 26))) := below_alloc w2 _
 have hx2 : Hid ((w2.alloc (.cells #[.slice ta2 U.text.length tc2, .slice da2 U.data.length dc2, .slice ea2 U.equs.length ec2, .slice ga2 U.globs.length gc2] 26)).heap[w2.heap.size]? = some (.cells #[.slice ta2 U.text.length tc2, .slice da2 U.data.length dc2, .slice ea2 U.equs.length ec2, .slice ga2 U.globs.length gc2] 26 (0, 0))) := heap_alloc_new w2 _
 have hsz2 : Hid ((w2.alloc (.cells #[.slice ta2 U.text.length tc2, .slice da2 U.data.length dc2, .slice ea2 U.equs.length ec2, .slice ga2 U.globs.length gc2] 26)).heap.size = w2.heap.size + 1) := by show _ = _; simp
 have hSp : Hid (∀ W, Below w2.heap.size w2 W -> Calls Tryz.prog 28 #[.agg (unitV ta2 tc2 da2 dc2 ea2 ec2 ga2 gc2 U)] W fun e w' => e = .returned (.tuple #[]) /\ Spx W1.heap.size w2.heap.size (fun _ _ => True) W w') := fun W hb => spoil_kept huH.out hn2.out hK2.out rfl hb
 generalize w2.alloc (.cells #[.slice ta2 U.text.length tc2, .slice da2 U.data.length dc2, .slice ea2 U.equs.length ec2, .slice ga2 U.globs.length gc2] 26) = W2 at *
 have hS2 := Hid.intro (hS1.out.below hB12.out)
 obtain ⟨c0, c1, c2, c3⟩ := four_read ((hB12.out.block _ (blk_lt hx1.out)).trans hx1.out)
 have hcp := Hid.intro (copy_kept ta tc da dc ea ec ga gc U huH.out W2 hS2.out)
 clear hn2 hK2 hS1 hS2
 go_upto_region 5 with (go_at_call 27; (with_reducible refine (hcp.out).mono ?_); rintro e w3 ⟨hb3, ta3, tc3, da3, dc3, ea3, ec3, ga3, gc3, pt3, pd3, pe3, rfl, hK3⟩; replace hK3 := Hid.intro hK3; replace hb3 := Hid.intro hb3)
 all_goals first | omega | skip
 have hB23 : Hid (Below W2.heap.size W2 (w3.alloc (.cells #[.slice ta3 U.text.length tc3, .slice da3 U.data.length dc3, .slice ea3 U.equs.length ec3, .slice ga3 U.globs.length gc3] 26))) := hb3.out.alloc hb3.out.size _
 have hx3 : Hid ((w3.alloc (.cells #[.slice ta3 U.text.length tc3, .slice da3 U.data.length dc3, .slice ea3 U.equs.length ec3, .slice ga3 U.globs.length gc3] 26)).heap[w3.heap.size]? = some (.cells #[.slice ta3 U.text.length tc3, .slice da3 U.data.length dc3, .slice ea3 U.equs.length ec3, .slice ga3 U.globs.length gc3] 26 (0, 0))) := heap_alloc_new w3 _
 have hK33 : Hid (UKp W2.heap.size (w3.alloc (.cells #[.slice ta3 U.text.length tc3, .slice da3 U.data.length dc3, .slice ea3 U.equs.length ec3, .slice ga3 U.globs.length gc3] 26)) ta3 tc3 da3 dc3 ea3 ec3 ga3 gc3 U pt3 pd3 pe3) := hK3.out.below (below_alloc w3 _)
 have hg3 : Hid (w2.heap.size <= w3.heap.size) := by have h1 := hb3.out.size; have h2 := hsz2.out; show _ <= _; omega
 generalize w3.alloc (.cells #[.slice ta3 U.text.length tc3, .slice da3 U.data.length dc3, .slice ea3 U.equs.length ec3, .slice ga3 U.globs.length gc3] 26) = W3 at *
 generalize w3.heap.size = g3 at *
 clear hb3 hK3 hcp c0 c1 c2 c3
 obtain ⟨c0, c1, c2, c3⟩ := four_read ((hB23.out.block _ (blk_lt hx2.out)).trans hx2.out)
 have hB33 := Hid.intro (chn hB22.out (hB23.out.mono (by have := hsz2.out; omega)))
 go_upto_region 6 with (go_at_call 28; (with_reducible refine (hSp.out _ hB33.out).mono ?_); rintro e w4 ⟨rfl, hs4⟩; replace hs4 := Hid.intro hs4)
 all_goals first | omega | skip
 have hB14 : Hid (Below W1.heap.size W1 w4) := (hB12.out.trans (hB23.out.mono hB12.out.size)).trans (below_spx hs4.out (Nat.le_trans hB12.out.size hB23.out.size))
 have hxw : Hid (w4.heap[g3]? = some (.cells #[.slice ta3 U.text.length tc3, .slice da3 U.data.length dc3, .slice ea3 U.equs.length ec3, .slice ga3 U.globs.length gc3] 26 (0, 0))) := (hs4.out.out g3 (blk_lt hx3.out) (.inr hg3.out)).trans hx3.out
 have hxu : Hid (w4.heap[g1]? = some (.cells #[.slice ta U.text.length tc, .slice da U.data.length dc, .slice ea U.equs.length ec, .slice ga U.globs.length gc] 26 (0, 0))) := (hB14.out.block _ (blk_lt hx1.out)).trans hx1.out
 have hI4 := Hid.intro (hU1.out.below hB14.out)
 have hJ4 : Hid (UnitIn w4 ta3 da3 ea3 ga3 U) := (UKp.spx hs4.out (by have := hsz2.out; omega) hK33.out).inn
 have hBw4 : Hid (Below w.heap.size w w4) := hB1.out.trans (hB14.out.mono hB1.out.size)
 clear hB14 hs4 hK33 hx3 hg3 hB33 hB23 hx2 hB22 hB12 hsz2 hSp hU1 hx1 hB1 c0 c1 c2 c3 hb2
 have hsm4 := Hid.intro (sameUnit_any ta da ea ga ta3 da3 ea3 ga3 tc dc ec gc tc3 dc3 ec3 gc3 U huH.out w4 hI4.out hJ4.out)
 obtain ⟨c0, c1, c2, c3⟩ := four_read hxu.out
 obtain ⟨d0, d1, d2, d3⟩ := four_read hxw.out
 go_upto_region 9 with (first
  | (go_at_call 12; (with_reducible refine (hsm4.out).mono ?_); rintro e w5 ⟨rfl, hb5⟩; replace hb5 := Hid.intro hb5; have hBw5 := Hid.intro (hBw4.out.trans (hb5.out.mono hBw4.out.size)); clear c0 c1 c2 c3 d0 d1 d2 d3)
  | (go_at_call 9; (with_reducible refine (haH.out _ (hEH.out.below hBw5.out)).mono ?_); rintro e w6 ⟨hb6, ta6, tc6, da6, dc6, ea6, ec6, ga6, gc6, er6, pt6, pd6, pe6, rfl, her6, hK6, hn6⟩; replace hK6 := Hid.intro hK6; replace hb6 := Hid.intro hb6; replace her6 := Hid.intro her6; clear hn6))
 all_goals first | omega | skip
 have hB46 : Hid (Below w4.heap.size w4 (w6.alloc (.cells #[.slice ta6 U.text.length tc6, .slice da6 U.data.length dc6, .slice ea6 U.equs.length ec6, .slice ga6 U.globs.length gc6] 26))) := (chn hb5.out hb6.out).alloc (Nat.le_trans hb5.out.size hb6.out.size) _
 have hxx : Hid ((w6.alloc (.cells #[.slice ta6 U.text.length tc6, .slice da6 U.data.length dc6, .slice ea6 U.equs.length ec6, .slice ga6 U.globs.length gc6] 26)).heap[w6.heap.size]? = some (.cells #[.slice ta6 U.text.length tc6, .slice da6 U.data.length dc6, .slice ea6 U.equs.length ec6, .slice ga6 U.globs.length gc6] 26 (0, 0))) := heap_alloc_new w6 _
 have hX6 : Hid (UnitIn (w6.alloc (.cells #[.slice ta6 U.text.length tc6, .slice da6 U.data.length dc6, .slice ea6 U.equs.length ec6, .slice ga6 U.globs.length gc6] 26)) ta6 da6 ea6 ga6 U) := hK6.out.inn.below (below_alloc w6 _)
 generalize w6.alloc (.cells #[.slice ta6 U.text.length tc6, .slice da6 U.data.length dc6, .slice ea6 U.equs.length ec6, .slice ga6 U.globs.length gc6] 26) = W6 at *
 generalize w6.heap.size = g6 at *
 have hI6 := Hid.intro (hI4.out.below hB46.out)
 have hJ6 := Hid.intro (hJ4.out.below hB46.out)
 have hxu6 := Hid.intro ((hB46.out.block _ (blk_lt hxu.out)).trans hxu.out)
 have hxw6 := Hid.intro ((hB46.out.block _ (blk_lt hxw.out)).trans hxw.out)
 have hBw6 : Hid (Below w.heap.size w W6) := hBw4.out.trans (hB46.out.mono hBw4.out.size)
 clear hb5 hb6 hK6 hB46 hsm4 hBw5 hBw4 hI4 hJ4 hxu hxw
 have hBk7 := Hid.intro (Bk.Books.start W6)
 have hB67 := Hid.intro (below_alloc W6 (.cells #[.slice none 0 0, .slice none 0 0, .int .i64 0, .bool false] 62))
 go_upto_region 10 with fail
 all_goals first | omega | skip
 replace hBk7 := Hid.intro hBk7.out.grow
 generalize W6.alloc (.cells #[.slice none 0 0, .slice none 0 0, .int .i64 0, .bool false] 62) = W7 at *
 have hNm : Hid (∀ W, Below W6.heap.size W6 W -> Calls Tryz.prog 11 #[.agg (unitV ta tc da dc ea ec ga gc U)] W fun e w' => ∃ a' c', e = .returned (.slice a' (sortS U.names).length c') /\ NmS W a' c' (sortS U.names) (sortS U.names).length w') := fun W hb => names_ok ta tc da dc ea ec ga gc U huH.out hsnH.out W (hEH.out.below (hBw6.out.trans (hb.mono hBw6.out.size))).tab (hI6.out.below hb) hrH.out
 have hnsl : Hid ((sortS U.names).length <= 20000) := by show _ <= _; rw [sortS_len]; exact hnlH.out
 generalize sortS U.names = ns at *
 obtain ⟨c0, c1, c2, c3⟩ := four_read ((hB67.out.block _ (blk_lt hxu6.out)).trans hxu6.out)
 go_upto_region 11 with (first
  | (go_at_call 11; (with_reducible refine (hNm.out _ hB67.out).mono ?_); rintro e w8 ⟨a8, c8, rfl, hN8⟩; have hBk8 : Hid (Bk.Books W6 w8 W6.heap.size 0 W7.heap.size) := hBk7.out.more hN8.bel; have hkp8 := Hid.intro (Bk.keep_books hBk8.out (by omega) (show Bk.OwnT w8 W7.heap.size a8 c8 ns from ⟨trivial, hN8.own⟩) hnsl.out); clear hN8)
  | (go_at_call 29; (with_reducible refine (hkp8.out).mono ?_); rintro e w9 ⟨rfl, hBk9⟩; replace hBk9 := Hid.intro hBk9))
 all_goals first | omega | skip
 clear hBk8 hkp8 hBk7 c0 c1 c2 c3
 have hB69 := Hid.intro hBk9.out.2.1
 obtain ⟨c0, c1, c2, c3⟩ := four_read ((hB69.out.block _ (blk_lt hxu6.out)).trans hxu6.out)
 go_upto_region 12 with (first
  | (go_at_call 11; (with_reducible refine (hNm.out _ hB69.out).mono ?_); rintro e w10 ⟨a10, c10, rfl, hN10⟩; have hBk10 : Hid (Bk.Books W6 w10 W6.heap.size 1 w9.heap.size) := hBk9.out.more hN10.bel; have hkp10 := Hid.intro (Bk.keep_books hBk10.out (by omega) (show Bk.OwnT w10 w9.heap.size a10 c10 ns from ⟨trivial, hN10.own⟩) hnsl.out); clear hN10)
  | (go_at_call 29; (with_reducible refine (hkp10.out).mono ?_); rintro e w11 ⟨rfl, hBk11⟩; replace hBk11 := Hid.intro hBk11))
 all_goals first | omega | skip
 clear hBk10 hkp10 hBk9 hB69 c0 c1 c2 c3 hNm hB67
 have hB611 := Hid.intro hBk11.out.2.1
 have hsm11 : Hid (∀ W, Below w11.heap.size w11 W -> Calls Tryz.prog 12 #[.agg (unitV ta6 tc6 da6 dc6 ea6 ec6 ga6 gc6 U), .agg (unitV ta3 tc3 da3 dc3 ea3 ec3 ga3 gc3 U)] W fun e w' => e = .returned (.bool true) /\ Below W.heap.size W w') := fun W hb => sameUnit_any ta6 da6 ea6 ga6 ta3 da3 ea3 ga3 tc6 dc6 ec6 gc6 tc3 dc3 ec3 gc3 U huH.out W (hX6.out.below (hB611.out.trans (hb.mono hB611.out.size))) (hJ6.out.below (hB611.out.trans (hb.mono hB611.out.size)))
 have hcel : Hid (∀ W, Below W6.heap.size W6 W -> (W.cell? ⟨g6, 0, none⟩ = some (.slice ta6 U.text.length tc6) /\ W.cell? ⟨g6, 1, none⟩ = some (.slice da6 U.data.length dc6) /\ W.cell? ⟨g6, 2, none⟩ = some (.slice ea6 U.equs.length ec6) /\ W.cell? ⟨g6, 3, none⟩ = some (.slice ga6 U.globs.length gc6)) /\ W.cell? ⟨g3, 0, none⟩ = some (.slice ta3 U.text.length tc3) /\ W.cell? ⟨g3, 1, none⟩ = some (.slice da3 U.data.length dc3) /\ W.cell? ⟨g3, 2, none⟩ = some (.slice ea3 U.equs.length ec3) /\ W.cell? ⟨g3, 3, none⟩ = some (.slice ga3 U.globs.length gc3)) := fun W hb => ⟨four_read ((hb.block _ (blk_lt hxx.out)).trans hxx.out), four_read ((hb.block _ (blk_lt hxw6.out)).trans hxw6.out)⟩
 obtain ⟨⟨c0, c1, c2, c3⟩, d0, d1, d2, d3⟩ := hcel.out w11 hB611.out
 have hap : Hid (∀ W, Below w11.heap.size w11 W -> Calls Tryz.prog 30 #[.pointer (some ⟨W6.heap.size, 0, none⟩), .func (.func 31) #[] #[]] W fun e w' => e = .returned (.bool true) /\ Below W6.heap.size W6 w') := fun W hb => Bk.apart_books (hBk11.out.more hb) (by omega) (by omega)
 have hkn2 : Hid (∀ W, Below W6.heap.size W6 W -> Calls Tryz.prog 15 #[] W fun e w' => e = .returned (.bool true) /\ Below W.heap.size W w') := fun W hb => hkn.out W (hEH.out.below (hBw6.out.trans (hb.mono hBw6.out.size)))
 clear hkn hEH hBk11 hX6 hJ6 hxx hxw6 hxu6 hI6 huH hrH hsnH hnlH haH f1 hnsl
 have hEr := her.out
 have hEr6 := her6.out
 clear her her6
 cases ok with
 | true =>
  have e1 : er = .nilIface := hEr
  have e2 : er6 = .nilIface := hEr6
  subst e1 e2
  clear hEr hEr6
  go_region_held3 (fun W => W.cell? ⟨g6, 0, none⟩ = some (.slice ta6 U.text.length tc6) /\ W.cell? ⟨g6, 1, none⟩ = some (.slice da6 U.data.length dc6) /\ W.cell? ⟨g6, 2, none⟩ = some (.slice ea6 U.equs.length ec6) /\ W.cell? ⟨g6, 3, none⟩ = some (.slice ga6 U.globs.length gc6) /\ W.cell? ⟨g3, 0, none⟩ = some (.slice ta3 U.text.length tc3) /\ W.cell? ⟨g3, 1, none⟩ = some (.slice da3 U.data.length dc3) /\ W.cell? ⟨g3, 2, none⟩ = some (.slice ea3 U.equs.length ec3) /\ W.cell? ⟨g3, 3, none⟩ = some (.slice ga3 U.globs.length gc3)) (go_keep)
   ((first
    | (go_at_call 12; (with_reducible refine (hsm11.out _ (Below.refl _ _).drew).mono ?_); rintro e w12 ⟨rfl, hb12⟩; have hB12 : Hid (Below w11.heap.size w11 w12) := chn (Below.refl _ _).drew hb12; obtain ⟨⟨c0, c1, c2, c3⟩, d0, d1, d2, d3⟩ := hcel.out w12 (hB611.out.trans (hB12.out.mono hB611.out.size)); clear hb12)
    | (go_at_call 30; (with_reducible refine (hap.out _ hB12.out).mono ?_); rintro e w13 ⟨rfl, hb13⟩; replace hb13 := Hid.intro hb13; obtain ⟨⟨c0, c1, c2, c3⟩, d0, d1, d2, d3⟩ := hcel.out w13 hb13.out)
    | (go_at_call 15; (with_reducible refine (hkn2.out _ hb13.out).mono ?_); rintro e w14 ⟨rfl, hb14⟩; replace hb14 := Hid.intro hb14; obtain ⟨⟨c0, c1, c2, c3⟩, d0, d1, d2, d3⟩ := hcel.out w14 (hb13.out.trans (hb14.out.mono hb13.out.size)))))
  all_goals (go_wp2; go_ret)
  all_goals exact ⟨rfl, hBw6.out.trans ((hb13.out.trans (hb14.out.mono hb13.out.size)).mono hBw6.out.size)⟩
 | false =>
  obtain ⟨q, e1⟩ : ∃ q, er = .iface 51 (.pointer (some ⟨q, 0, none⟩)) := hEr
  obtain ⟨q6, e2⟩ : ∃ q, er6 = .iface 51 (.pointer (some ⟨q, 0, none⟩)) := hEr6
  subst e1 e2
  go_region_held3 (fun W => W.cell? ⟨g6, 0, none⟩ = some (.slice ta6 U.text.length tc6) /\ W.cell? ⟨g6, 1, none⟩ = some (.slice da6 U.data.length dc6) /\ W.cell? ⟨g6, 2, none⟩ = some (.slice ea6 U.equs.length ec6) /\ W.cell? ⟨g6, 3, none⟩ = some (.slice ga6 U.globs.length gc6) /\ W.cell? ⟨g3, 0, none⟩ = some (.slice ta3 U.text.length tc3) /\ W.cell? ⟨g3, 1, none⟩ = some (.slice da3 U.data.length dc3) /\ W.cell? ⟨g3, 2, none⟩ = some (.slice ea3 U.equs.length ec3) /\ W.cell? ⟨g3, 3, none⟩ = some (.slice ga3 U.globs.length gc3)) (go_keep)
   ((first
    | (go_at_call 12; (with_reducible refine (hsm11.out _ (Below.refl _ _).drew).mono ?_); rintro e w12 ⟨rfl, hb12⟩; have hB12 : Hid (Below w11.heap.size w11 w12) := chn (Below.refl _ _).drew hb12; obtain ⟨⟨c0, c1, c2, c3⟩, d0, d1, d2, d3⟩ := hcel.out w12 (hB611.out.trans (hB12.out.mono hB611.out.size)); clear hb12)
    | (go_at_call 30; (with_reducible refine (hap.out _ hB12.out).mono ?_); rintro e w13 ⟨rfl, hb13⟩; replace hb13 := Hid.intro hb13; obtain ⟨⟨c0, c1, c2, c3⟩, d0, d1, d2, d3⟩ := hcel.out w13 hb13.out)
    | (go_at_call 15; (with_reducible refine (hkn2.out _ hb13.out).mono ?_); rintro e w14 ⟨rfl, hb14⟩; replace hb14 := Hid.intro hb14; obtain ⟨⟨c0, c1, c2, c3⟩, d0, d1, d2, d3⟩ := hcel.out w14 (hb13.out.trans (hb14.out.mono hb13.out.size)))))
  all_goals (go_wp2; go_ret)
  all_goals exact ⟨rfl, hBw6.out.trans ((hb13.out.trans (hb14.out.mono hb13.out.size)).mono hBw6.out.size)⟩
end Go.Proofs.YtogkchgjpflmjaaGreatDoor
