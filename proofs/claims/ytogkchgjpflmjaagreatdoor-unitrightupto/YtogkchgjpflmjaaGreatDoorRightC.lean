/- PROVED, where the unit that comes in holds at most 1048576 values and letters: unit's Right, Names and Spans answer as the document's, whatever the unit: chapter 9's P9.2, P9.3 (spandrellaw9.UnitRight returns true). Conditions: that bound, and the listed variables as the program's text lays them. -/
import Derived.Test.YtogkchgjpflmjaaGreatDoorDr
import Derived.Test.YtogkchgjpflmjaaGreatDoorNms
import Derived.Test.YtogkchgjpflmjaaGreatDoorUOp
import Derived.Test.YtogkchgjpflmjaaGreatDoorUFrame
import Derived.ShutString
import Derived.ChangeOld
import Derived.JoinedCond
/- UnitRight's walk. -/
namespace Go.Proofs.YtogkchgjpflmjaaGreatDoor
open Go.ChangeShapes Go.WideShapes Go.ChangeAt Go.RowKit Go.Sort
set_option linter.unusedVariables false
set_option maxRecDepth 100000
theorem rightN_some (u : UVal) : ∃ n : Int, RightN u n ∧ (n = 0 ∨ n = 4 ∨ n = 31) := by
  by_cases h8 : 8192 < u.text.length + u.data.length ∨ 8192 < u.equs.length
  · exact ⟨4, .inl ⟨h8, rfl⟩, by omega⟩
  · by_cases hr : RightU u
    · exact ⟨0, .inr ⟨h8, .inl ⟨hr, rfl⟩⟩, by omega⟩
    · exact ⟨31, .inr ⟨h8, .inr ⟨hr, rfl⟩⟩, by omega⟩
theorem right_nodup {u : UVal} (h : RightN u 0) : u.names.Nodup := by
  rcases h with ⟨_, h⟩ | ⟨_, ⟨hr, _⟩ | ⟨_, h⟩⟩
  · cases h
  · exact (twice_iff _).1 hr.once
  · cases h
theorem chainB {w0 w1 w2 : World} (h1 : Below w0.heap.size w0 w1) (h2 : Below w1.heap.size w1 w2) : Below w0.heap.size w0 w2 := h1.trans (h2.mono h1.size)
set_option maxHeartbeats 8000000 in
theorem unitRightW (ta : Option Addr) (tc : Nat) (da : Option Addr) (dc : Nat) (ea : Option Addr) (ec : Nat) (ga : Option Addr) (gc : Nat) (u : UVal) (hu : HeldU u) (hs : ∀ s ∈ u.names, s.length ≤ 1100000) (w : World) (hE : Env w) (hI : UnitIn w ta da ea ga u) :
    Calls Tryz.prog 5 #[.agg (unitV ta tc da dc ea ec ga gc u)] w fun e w' => e = .returned (.bool true) ∧ Below w.heap.size w w' := by
  obtain ⟨n, hn, hnv⟩ := rightN_some u
  have h20 : Hid (∀ W, Below w.heap.size w W → Calls Tryz.prog 20 #[.agg (unitV ta tc da dc ea ec ga gc u)] W fun e w' => e = .returned (.int .i64 n) ∧ Below W.heap.size W w') := fun W hb => (dright_any ta tc da dc ea ec ga gc u hu hs W (hI.below hb)).mono fun e w' ⟨⟨m, h1, h2⟩, h3⟩ => ⟨by rw [h1, rightN_one h2 hn], h3⟩
  have h14 : Hid (∀ W, Below w.heap.size w W → Calls Tryz.prog 14 #[.agg (unitV ta tc da dc ea ec ga gc u)] W fun e w' => e = .returned (.int .i64 n) ∧ Below W.heap.size W w') := fun W hb => unitRight_is ta tc da dc ea ec ga gc u hu W (hE.below hb).tab (hI.below hb) n hn
  have h21 : Hid (∀ W, Below w.heap.size w W → Calls Tryz.prog 21 #[.agg (unitV ta tc da dc ea ec ga gc u)] W fun e w' => e = .returned (.int .i64 (if n = 0 then (spanN u.text : Int) else 0)) ∧ Below W.heap.size W w') := fun W hb => unitSpans_any ta tc da dc ea ec ga gc u hu W (hE.below hb).tab (hI.below hb) n hn
  have h15 : Hid (∀ W, Below w.heap.size w W → Calls Tryz.prog 15 #[] W fun e w' => e = .returned (.bool true) ∧ Below W.heap.size W w') := fun W hb => known_any W (hE.below hb)
  have hx := heap_alloc_new w (.cells (unitV ta tc da dc ea ec ga gc u) 26)
  have hB0 : Below w.heap.size w (w.alloc (.cells (unitV ta tc da dc ea ec ga gc u) 26)) := below_alloc w _
  have hK : Hid (∀ W, Below (w.alloc (.cells (unitV ta tc da dc ea ec ga gc u) 26)).heap.size (w.alloc (.cells (unitV ta tc da dc ea ec ga gc u) 26)) W → W.cell? ⟨w.heap.size, 0, none⟩ = some (.slice ta u.text.length tc) ∧ W.cell? ⟨w.heap.size, 1, none⟩ = some (.slice da u.data.length dc) ∧ W.cell? ⟨w.heap.size, 2, none⟩ = some (.slice ea u.equs.length ec) ∧ W.cell? ⟨w.heap.size, 3, none⟩ = some (.slice ga u.globs.length gc)) := fun W hb => four_read ((hb.block _ (blk_lt hx)).trans hx)
  have hBH := Hid.intro hB0
  have l1 : u.text.length ≤ 1100000 := hu.text.1
  have l2 : u.data.length ≤ 1100000 := hu.data.1
  have l3 : u.equs.length ≤ 1100000 := hu.equs.1
  have h19 : Hid (Calls Tryz.prog 19 #[.slice (some ⟨w.heap.size + 1, 0, none⟩) 1 1] ((w.alloc (.cells (unitV ta tc da dc ea ec ga gc u) 26)).alloc (.cells (unitV ta tc da dc ea ec ga gc u) 26)) fun r w' => r = .returned (.bool (largeB u.text.length u.data.length u.equs.length)) ∧ Below ((w.alloc (.cells (unitV ta tc da dc ea ec ga gc u) 26)).alloc (.cells (unitV ta tc da dc ea ec ga gc u) 26)).heap.size ((w.alloc (.cells (unitV ta tc da dc ea ec ga gc u) 26)).alloc (.cells (unitV ta tc da dc ea ec ga gc u) 26)) w') := by
    have h := large_any (w.heap.size + 1) ta tc da dc ea ec ga gc u.text.length u.data.length u.equs.length u.globs.length l1 l2 l3 ((w.alloc (.cells (unitV ta tc da dc ea ec ga gc u) 26)).alloc (.cells (unitV ta tc da dc ea ec ga gc u) 26)) (by
      have h2 := heap_alloc_new (w.alloc (.cells (unitV ta tc da dc ea ec ga gc u) 26)) (.cells (unitV ta tc da dc ea ec ga gc u) 26)
      rwa [show (w.alloc (.cells (unitV ta tc da dc ea ec ga gc u) 26)).heap.size = w.heap.size + 1 from by simp] at h2)
    exact h
  have hn11 : Hid (n ≠ 0 → ∀ W, Below w.heap.size w W → Calls Tryz.prog 11 #[.agg (unitV ta tc da dc ea ec ga gc u)] W fun e w' => e = .returned (.slice none 0 0) ∧ Below W.heap.size W w') := fun h0 W hb => names_bad ta tc da dc ea ec ga gc u hu W (hE.below hb).tab (hI.below hb) n hn h0
  have hz11 : Hid (n = 0 → ∀ W, Below w.heap.size w W → Calls Tryz.prog 11 #[.agg (unitV ta tc da dc ea ec ga gc u)] W fun e w' => ∃ a' c', e = .returned (.slice a' (sortS u.names).length c') ∧ Below W.heap.size W w' ∧ StIn w' a' (sortS u.names)) := fun h0 W hb => (names_ok ta tc da dc ea ec ga gc u hu hs W (hE.below hb).tab (hI.below hb) (h0 ▸ hn)).mono fun e w' ⟨a', c', h1, h2⟩ => ⟨a', c', h1, h2.bel, own_stIn h2.own⟩
  have hz23 : Hid (∀ W, Below w.heap.size w W → Calls Tryz.prog 23 #[.agg (unitV ta tc da dc ea ec ga gc u)] W fun e w' => ∃ a' c', e = .returned (.slice a' u.names.length c') ∧ Below W.heap.size W w' ∧ StIn w' a' u.names) := fun W hb => (dall_any ta tc da dc ea ec ga gc u hu W (hI.below hb)).mono fun e w' ⟨a', c', h1, h2⟩ => ⟨a', c', h1, h2.bel, own_stIn h2.own⟩
  have hnl : u.names.length ≤ 3300000 := by
    unfold UVal.names
    have m1 := labN_len u.text
    have m2 := labN_len u.data
    simp only [List.length_append, List.length_map]
    omega
  have hz22 : Hid (n = 0 → ∀ a c W, StIn W a u.names → Calls Tryz.prog 22 #[.slice a u.names.length c] W fun e w' => ∃ a' c', e = .returned (.slice a' (sortS u.names).length c') ∧ Below W.heap.size W w' ∧ StIn w' a' (sortS u.names)) := fun h0 a c W hst => by
    have h := sorted_any a c u.names (by omega) W hst
    rw [srtD_sortS (right_nodup (h0 ▸ hn))] at h
    exact h.mono fun e w' ⟨a', c', h1, h2⟩ => ⟨a', c', h1, h2.bel, own_stIn h2.own⟩
  have hz24 : Hid (∀ W, Below w.heap.size w W → Calls Tryz.prog 24 #[.agg (unitV ta tc da dc ea ec ga gc u)] W fun e w' => e = .returned (.int .i64 (spanN u.text : Int)) ∧ Below W.heap.size W w') := fun W hb => dspans_any ta tc da dc ea ec ga gc u hu W (hI.below hb)
  have hz10 : Hid (¬ largeB u.text.length u.data.length u.equs.length = true → ∀ a b c d W, StIn W a (sortS u.names) → StIn W b (sortS u.names) → Calls Tryz.prog 10 #[.slice a (sortS u.names).length c, .slice b (sortS u.names).length d] W fun e w' => e = .returned (.bool true) ∧ Below W.heap.size W w') := fun hl a b c d W p1 p2 => sameStr_any (sortS u.names) (by
    have hm : u.names.length ≤ 900 := by
      simp only [largeB, Bool.or_eq_true, decide_eq_true_eq] at hl
      unfold UVal.names
      have m1 := labN_len u.text
      have m2 := labN_len u.data
      simp only [List.length_append, List.length_map]
      omega
    rw [sortS_len]
    omega) a b _ c d W p1 p2 (Hid.intro rfl)
  clear hx hB0 hE hI hu hs hn hnl
  unfold unitV at *
  generalize (sortS u.names).length = sn at *
  generalize sortS u.names = ss at *
  generalize u.names.length = mn at *
  generalize u.names = nms at *
  generalize largeB u.text.length u.data.length u.equs.length = lb at *
  generalize spanN u.text = sp at *
  generalize u.text.length = n1 at *
  generalize u.data.length = n2 at *
  generalize u.equs.length = n3 at *
  generalize u.globs.length = n4 at *
  obtain ⟨c0, c1, c2, c3⟩ := hK.out _ (Below.refl _ _)
  cases lb with
  | true =>
    go_enter Tryz.func5, Tryz.ntmps5
    go_wp2_with (first
      | (go_at_call 19
         (with_reducible refine (h19.out).mono ?_)
         rintro e w1 ⟨rfl, hb1⟩
         have hB1 := Hid.intro ((hBH.out.alloc hBH.out.size _).trans (hb1.mono (hBH.out.alloc hBH.out.size _).size))
         clear hb1)
      | (go_at_call 15; (with_reducible refine (h15.out _ hB1.out).mono ?_); rintro e w2 ⟨rfl, hb2⟩))
    all_goals first | omega | skip
    go_ret
    exact ⟨rfl, hB1.out.trans (hb2.mono hB1.out.size)⟩
  | false =>
    have hA := Hid.intro (below_alloc (w.alloc (.cells #[.slice ta n1 tc, .slice da n2 dc, .slice ea n3 ec, .slice ga n4 gc] 26)) (.cells #[.slice ta n1 tc, .slice da n2 dc, .slice ea n3 ec, .slice ga n4 gc] 26))
    by_cases h0 : n = 0
    · subst h0
      rw [if_pos rfl] at h21
      have y11 := Hid.intro (hz11.out rfl)
      have y22 := Hid.intro (hz22.out rfl)
      have y10 := Hid.intro (hz10.out (by simp))
      clear hz11 hz22 hz10 hn11 hnv
      go_enter Tryz.func5, Tryz.ntmps5
      go_wp2_with (first
        | (go_at_call 19
           (with_reducible refine (h19.out).mono ?_)
           rintro e w1 ⟨rfl, hb1⟩
           have hC1 := Hid.intro (hA.out.trans (hb1.mono hA.out.size))
           have hB1 := Hid.intro (hBH.out.trans (hC1.out.mono hBH.out.size))
           clear c0 c1 c2 c3
           obtain ⟨c0, c1, c2, c3⟩ := hK.out w1 hC1.out
           clear hb1)
        | (go_at_call 20
           (with_reducible refine (h20.out _ hB1.out).mono ?_)
           rintro e w2 ⟨rfl, hb2⟩
           have hC2 := Hid.intro (hC1.out.trans (hb2.mono hC1.out.size))
           have hB2 := Hid.intro (hB1.out.trans (hb2.mono hB1.out.size))
           clear c0 c1 c2 c3
           obtain ⟨c0, c1, c2, c3⟩ := hK.out w2 hC2.out
           clear hb2)
        | (go_at_call 14
           (with_reducible refine (h14.out _ hB2.out).mono ?_)
           rintro e w3 ⟨rfl, hb3⟩
           have hC3 := Hid.intro (hC2.out.trans (hb3.mono hC2.out.size))
           have hB3 := Hid.intro (hB2.out.trans (hb3.mono hB2.out.size))
           clear c0 c1 c2 c3
           obtain ⟨c0, c1, c2, c3⟩ := hK.out w3 hC3.out
           clear hb3))
      all_goals first | omega | skip
      go_region_held3 (fun W => W.cell? ⟨w.heap.size, 0, none⟩ = some (.slice ta n1 tc) ∧ W.cell? ⟨w.heap.size, 1, none⟩ = some (.slice da n2 dc) ∧ W.cell? ⟨w.heap.size, 2, none⟩ = some (.slice ea n3 ec) ∧ W.cell? ⟨w.heap.size, 3, none⟩ = some (.slice ga n4 gc)) (go_keep)
        ((first
          | (go_at_call 11; (with_reducible refine (y11.out _ hB3.out.drew).mono ?_); rintro e w4 ⟨a4, k4, rfl, hb4, hs4⟩; have hC4 := Hid.intro (chainB hC3.out.drew hb4); have hB4 := Hid.intro (chainB hB3.out.drew hb4); obtain ⟨d0, d1, d2, d3⟩ := hK.out w4 hC4.out; replace hs4 := Hid.intro hs4; clear hb4)
          | (go_at_call 23; (with_reducible refine (hz23.out _ hB4.out).mono ?_); rintro e w5 ⟨a5, k5, rfl, hb5, hs5⟩; have hC5 := Hid.intro (hC4.out.trans (hb5.mono hC4.out.size)); have hB5 := Hid.intro (hB4.out.trans (hb5.mono hB4.out.size)); obtain ⟨f0, f1, f2, f3⟩ := hK.out w5 hC5.out; have hs45 := Hid.intro (hs4.out.below hb5); replace hs5 := Hid.intro hs5; clear hb5)
          | (go_at_call 22; (with_reducible refine (y22.out _ _ _ hs5.out).mono ?_); rintro e w6 ⟨a6, k6, rfl, hb6, hs6⟩; have hC6 := Hid.intro (hC5.out.trans (hb6.mono hC5.out.size)); have hB6 := Hid.intro (hB5.out.trans (hb6.mono hB5.out.size)); obtain ⟨g0, g1, g2, g3⟩ := hK.out w6 hC6.out; have hs46 := Hid.intro (hs45.out.below hb6); replace hs6 := Hid.intro hs6; clear hb6)
          | (go_at_call 10; (with_reducible refine (y10.out _ _ _ _ _ hs46.out hs6.out).mono ?_); rintro e w7 ⟨rfl, hb7⟩; have hC7 := Hid.intro (hC6.out.trans (hb7.mono hC6.out.size)); have hB7 := Hid.intro (hB6.out.trans (hb7.mono hB6.out.size)); obtain ⟨j0, j1, j2, j3⟩ := hK.out w7 hC7.out; clear hb7)
          | (go_at_call 21; (with_reducible refine (h21.out _ hB7.out).mono ?_); rintro e w8 ⟨rfl, hb8⟩; have hC8 := Hid.intro (hC7.out.trans (hb8.mono hC7.out.size)); have hB8 := Hid.intro (hB7.out.trans (hb8.mono hB7.out.size)); obtain ⟨m0, m1, m2, m3⟩ := hK.out w8 hC8.out; clear hb8)
          | (go_at_call 24; (with_reducible refine (hz24.out _ hB8.out).mono ?_); rintro e w9 ⟨rfl, hb9⟩; have hC9 := Hid.intro (hC8.out.trans (hb9.mono hC8.out.size)); have hB9 := Hid.intro (hB8.out.trans (hb9.mono hB8.out.size)); obtain ⟨o0, o1, o2, o3⟩ := hK.out w9 hC9.out; clear hb9)
          | (go_at_call 15; (with_reducible refine (h15.out _ hB9.out).mono ?_); rintro e wa ⟨rfl, hba⟩; have hCa := Hid.intro (hC9.out.trans (hba.mono hC9.out.size)); have hBa := Hid.intro (hB9.out.trans (hba.mono hB9.out.size)); obtain ⟨x0, x1, x2, x3⟩ := hK.out wa hCa.out; clear hba)))
      all_goals go_wp2_with fail
      all_goals first | omega | skip
      all_goals go_ret
      all_goals exact ⟨rfl, hBa.out⟩
    · rw [if_neg h0] at h21
      have e0 : (n == 0) = false := by simpa using h0
      have hz : Hid (∀ W, Below w.heap.size w W → Calls Tryz.prog 11 #[.agg (unit4 (.slice ta n1 tc) (.slice da n2 dc) (.slice ea n3 ec) (.slice ga n4 gc))] W fun e w' => e = .returned (.slice none 0 0) ∧ Below W.heap.size W w') := hn11.out h0
      clear h0 hnv
      go_enter Tryz.func5, Tryz.ntmps5
      go_wp2_with (first
        | (go_at_call 19
           (with_reducible refine (h19.out).mono ?_)
           rintro e w1 ⟨rfl, hb1⟩
           have hC1 := Hid.intro (hA.out.trans (hb1.mono hA.out.size))
           have hB1 := Hid.intro (hBH.out.trans (hC1.out.mono hBH.out.size))
           clear c0 c1 c2 c3
           obtain ⟨c0, c1, c2, c3⟩ := hK.out w1 hC1.out
           clear hb1)
        | (go_at_call 20
           (with_reducible refine (h20.out _ hB1.out).mono ?_)
           rintro e w2 ⟨rfl, hb2⟩
           have hC2 := Hid.intro (hC1.out.trans (hb2.mono hC1.out.size))
           have hB2 := Hid.intro (hB1.out.trans (hb2.mono hB1.out.size))
           clear c0 c1 c2 c3
           obtain ⟨c0, c1, c2, c3⟩ := hK.out w2 hC2.out
           clear hb2)
        | (go_at_call 14
           (with_reducible refine (h14.out _ hB2.out).mono ?_)
           rintro e w3 ⟨rfl, hb3⟩
           have hC3 := Hid.intro (hC2.out.trans (hb3.mono hC2.out.size))
           have hB3 := Hid.intro (hB2.out.trans (hb3.mono hB2.out.size))
           clear c0 c1 c2 c3
           obtain ⟨c0, c1, c2, c3⟩ := hK.out w3 hC3.out
           clear hb3)
        | (go_at_call 11
           (with_reducible refine (hz.out _ hB3.out).mono ?_)
           rintro e w4 ⟨rfl, hb4⟩
           have hC4 := Hid.intro (hC3.out.trans (hb4.mono hC3.out.size))
           have hB4 := Hid.intro (hB3.out.trans (hb4.mono hB3.out.size))
           clear c0 c1 c2 c3
           obtain ⟨c0, c1, c2, c3⟩ := hK.out w4 hC4.out
           clear hb4)
        | (go_at_call 21
           (with_reducible refine (h21.out _ hB4.out).mono ?_)
           rintro e w5 ⟨rfl, hb5⟩
           have hB5 := Hid.intro (hB4.out.trans (hb5.mono hB4.out.size))
           clear c0 c1 c2 c3 hb5)
        | (go_at_call 15; (with_reducible refine (h15.out _ hB5.out).mono ?_); rintro e w6 ⟨rfl, hb6⟩))
      all_goals first | omega | skip
      go_ret
      exact ⟨rfl, hB5.out.trans (hb6.mono hB5.out.size)⟩
end Go.Proofs.YtogkchgjpflmjaaGreatDoor
namespace Go.Proofs.YtogkchgjpflmjaaGreatDoor.unitRight
open Go.ChangeShapes Go.WideShapes Go.ChangeAt Go.RowKit
set_option linter.unusedVariables false
set_option maxRecDepth 100000
theorem contract (H : Type) (enc : TypeId × Value → H) (W : World) (base : Nat) (args : Array Value) (ds gs : List (DataW H)) (before : List MemPlace)
    (hval : ∀ (j : Nat) t v, Tryz.f5.params[j]? = some t → args[j]? = some v → Value.okWide Tryz.prog W .any base t v)
    (hW : DataW.Whole enc Tryz.prog Tryz.f5.params.toList Rows.unitRightSpec.vars false W args.toList ds gs before) (hL : laidMetH Tryz.prog Rows.unitRightUptoRow.laid W) (hk : Rows.uptoSmall H (ds ++ gs) = true) :
    Calls Tryz.prog 5 args W fun e W' => ∃ v, e = .returned v ∧ Rows.unitRightSpec.post enc Tryz.prog Tryz.f5 false true false false W args v W' := by
  have hW' := hW
  obtain ⟨p, q, hA0, hV, rfl, hfz, hnd⟩ := hW
  have hA : DataW.TrodAll enc Tryz.prog W 0 (fun _ => true) true Tryz.f5.params.toList args.toList ds p := hA0
  rw [Tryz.params5] at hA hval
  obtain ⟨v0, vs0, d0, ds0, p0, q0, hargs, rfl, rfl, h0, r0⟩ := trodAll_cons hA
  obtain ⟨rfl, rfl, rfl⟩ := trodAll_nil r0
  obtain rfl : args = #[v0] := by cases args; simp_all
  obtain ⟨rfl, rfl⟩ := trodVars_none hV
  have k0 := h0
  have lt0 : ∀ x ∈ p0, x.block < W.heap.size := by obtain ⟨m, hm⟩ := k0; exact DataW.trod_lt m _ _ _ hm
  obtain ⟨ta, da, ea, ga, tc, dc, ec, gc, u, L⟩ := open_unit (hval 0 26 v0 rfl rfl) h0
  clear hA0
  simp only [List.append_nil] at hk
  have hsum : Rows.uptoBulkAll [d0] ≤ 1048576 := of_decide_eq_true hk
  simp only [Rows.uptoBulkAll] at hsum
  have hgo := unitRightW ta tc da dc ea ec ga gc u (L.held (by omega)) (L.names (by omega)) W (env_of_laid hL) L.lies
  rw [← L.is] at hgo
  refine hgo.mono fun e W' ⟨he, bel⟩ => ?_
  subst he
  exact ⟨_, rfl, _, _, _, [], _, [], hW', trodAll_mk1 (shut_bool Tryz.underlying4 _), (trodAll_cons_mk (Below.trod laidOut (by kernel_rfl) (of_decide_eq_true (by kernel_rfl)) k0 bel lt0) trodAll_mk0), rfl, bel.frame _, fun h => by cases h⟩
theorem reads (os : Os) {H : Type} (enc : TypeId × Value → H) : ∃ places, DataW.whole enc Tryz.prog ((laidWorld os).forCall (fun _ _ => 0) ⟨#[], #[.agg #[.slice none 0 0, .slice none 0 0, .slice none 0 0, .slice none 0 0]], []⟩).memory Tryz.f5.params.toList Rows.unitRightSpec.vars false #[.agg #[.slice none 0 0, .slice none 0 0, .slice none 0 0, .slice none 0 0]].toList 8 = some ([.agg [.nil, .nil, .nil, .nil]], [], places) :=
  ⟨[], by kernel_rfl⟩
theorem lifted (os : Os) (started : os.Started) (H : Type) (enc : TypeId × Value → H) (F : Stop.Interp) :
    ReturnsInHanded {} Tryz.checked os 5 .any ((Rows.OpenSpec.upto Rows.unitRightSpec).preRow enc Tryz.prog Tryz.f5 Rows.unitRightUptoRow.domain false Rows.unitRightUptoRow.laid) (((Rows.OpenSpec.upto Rows.unitRightSpec).at F).post enc Tryz.prog Tryz.f5 false true false false) := by
  obtain ⟨places, hx⟩ := reads os enc
  refine returnsInHanded_of_row (C := Tryz.checked) (s := Rows.OpenSpec.upto Rows.unitRightSpec) ownKnob_none started (by kernel_rfl) Tryz.func5
    (witness_row_at (enc := enc) (C := Tryz.checked) false (laidWorld os) #[.agg #[.slice none 0 0, .slice none 0 0, .slice none 0 0, .slice none 0 0]] rfl (by kernel_rfl) (by kernel_rfl) (by kernel_rfl)
      (OpenSpec.preRow_of_cond 8 hx (by kernel_rfl) (fun k hk => by cases hk; kernel_rfl) (by kernel_rfl) (laid_met os _))) ?_
  intro W base args ds gs before hval hW x1 x2 x3 hL x4 x5
  exact contract H enc W base args ds gs before hval hW hL (by first | exact x1 _ rfl | exact x2 _ rfl | exact x3 _ rfl | exact x4 _ rfl | exact x5 _ rfl)
theorem said : Rows.UnitRightUptoSaid :=
  OpenClaim.holds_of_cond 5 Tryz.f5 rfl rfl rfl rfl rfl rfl rfl ⟨rfl, rfl, rfl, rfl, rfl⟩ rfl rfl rfl rfl rfl (by kernel_rfl) Tryz.func5 (by kernel_rfl)
    (of_decide_eq_true (by kernel_rfl)) (by unfold Func.isWrapper; first | (rw [if_pos (by decide +kernel)]; kernel_rfl) | (rw [if_neg (by decide +kernel)]; exact ⟨rfl, rfl⟩))
    (fun os started H enc _ F => by rw [OpenClaim.pre_eq_preRow]; exact lifted os started H enc F)
theorem plain (f : FuncId) (fn : Func) (hf : Tryz.pinned.checked.prog.funcNamed "spandrel/spandrellaw9.UnitRight" = some f) (hfn : Tryz.pinned.checked.prog.funcs[f]? = some fn) :
    true = Tryz.pinned.checked.prog.looks [] ∧ ∀ (j : Nat) t, fn.params[j]? = some t → Tryz.pinned.checked.prog.wantsStandIn t = false := by
  obtain rfl : f = 5 := Option.some.inj ((show Tryz.prog.funcNamed "spandrel/spandrellaw9.UnitRight" = some 5 by kernel_rfl).symm.trans hf) |>.symm
  obtain rfl : fn = Tryz.f5 := (Option.some.inj (Tryz.func5.symm.trans hfn)).symm
  refine ⟨by kernel_rfl, fun j t ht => ?_⟩
  rw [Tryz.params5] at ht
  have hm := Array.mem_of_getElem? ht
  have h26 : Tryz.prog.wantsStandIn 26 = false := by kernel_rfl
  simp at hm
  subst hm
  exact h26
theorem card : Rows.UnitRightUptoCardSaid :=
  Claim7.holds_tied_plain_at .later [] _ _ _ _ said (fun _ h => by cases h) (by kernel_rfl) (fun _ h => by cases h) unitRightUpto_row_tie rfl ⟨rfl, rfl⟩ (by kernel_rfl) rfl plain (by kernel_rfl)
end Go.Proofs.YtogkchgjpflmjaaGreatDoor.unitRight
namespace Go.Proofs.YtogkchgjpflmjaaGreatDoor
theorem unitRightUpto_holds : Rows.UnitRightUptoCardSaid := unitRight.card
#print axioms unitRightUpto_holds
end Go.Proofs.YtogkchgjpflmjaaGreatDoor
