/- The document's number at a place: digits of 0 to f, and digits. -/
import Derived.Test.YtijdjljnppkhmaaDoorRefNum
namespace Go.Proofs.YtijdjljnppkhmaaDoor
open Go.ChangeShapes Go.WideShapes Go.ChangeAt Go.RowKit
set_option linter.unusedVariables false
set_option maxRecDepth 100000

theorem lenW_up (p : Int → Bool) (hp : p 0 = false) (r : List UInt8) (k : Nat) (h : k ≤ lenW p r) (hc : p (atI r k) = true) : k + 1 ≤ lenW p r := by
  apply Decidable.byContradiction
  intro hn
  have e : lenW p r = k := by omega
  have := lenW_end p hp r
  rw [e, hc] at this
  cases this
theorem lenW_here' (p : Int → Bool) (hp : p 0 = false) (r : List UInt8) (k : Nat) (h : k ≤ lenW p r) (hc : p (atI r k) = false) : lenW p r = k := by
  apply Decidable.byContradiction
  intro hn
  have := lenW_in p r k (by omega)
  rw [hc] at this
  cases this

set_option maxHeartbeats 4000000 in
theorem refHexa (s : ByteArray) (at_ : Nat) (ha : at_ < s.size) (hs : s.size ≤ 1100000) (h48 : atI (bs s) at_ = 48) (h120 : atI (bs s) (at_ + 1) = 120) (N T : Int) (hA : RefAns ((bs s).drop at_) at_ N T) (w : World) :
    Calls Tryd.prog 50 #[.string s, .int .i64 (at_ : Int)] w fun e w' => e = .returned (.tuple #[.int .u32 N, .int .i64 T]) ∧ w' = w := by
  have hlt1 : at_ + 1 < s.size := by
    have := atI_pos (bs s) (at_ + 1) (by omega)
    rwa [bs_length] at this
  have hg := atI_get s at_ ha
  have hg1 := atI_get s (at_ + 1) hlt1
  rw [h48] at hg
  rw [h120] at hg1
  have e1 : ((at_ : Int) + 1).toNat = at_ + 1 := by omega
  obtain ⟨r, hr⟩ : ∃ r, r = (bs s).drop at_ := ⟨_, rfl⟩
  have r0 : atI r 0 = 48 := by rw [hr, atI_drop, Nat.add_zero]; exact h48
  have r1 : atI r 1 = 120 := by rw [hr, atI_drop]; exact h120
  have rj : ∀ j, atI r j = atI (bs s) (at_ + j) := fun j => by rw [hr, atI_drop]
  have rl : r.length = s.size - at_ := by rw [hr, List.length_drop, bs_length]
  rw [← hr] at hA
  have H0 := Hid.intro r0
  have H1 := Hid.intro r1
  have HA := Hid.intro hA
  have HJ := Hid.intro rj
  have HL := Hid.intro rl
  clear r0 r1 hA rj rl hr h48 h120
  go_enter Tryd.func50, Tryd.ntmps50
  go_wp2
  all_goals first
    | omega
    | skip
  go_loop [6, 7] (fun vi vn => ∃ (p : Nat) (n : Int), at_ + 2 ≤ p ∧ p ≤ at_ + 12 ∧ p ≤ s.size ∧ vi = .int .i64 (p : Int) ∧ vn = .int .u64 n ∧ 0 ≤ n ∧ Hid (n < 16 ^ (p - at_ - 2) ∧ p - at_ - 2 ≤ lenW isHex (r.drop 2) ∧ n = val 16 0 ((r.drop 2).take (p - at_ - 2)))) (fun vi _ => s.size - (intOf vi).toNat)
  case atStart =>
    refine ⟨at_ + 2, 0, by omega, by omega, by omega, by go_num, rfl, by omega, ?_⟩
    rw [show at_ + 2 - at_ - 2 = 0 by omega]
    exact ⟨by simp, Nat.zero_le _, by simp [val_nil]⟩
  case round =>
    obtain ⟨p, n, hp1, hp2, hps, rfl, rfl, n0, hI⟩ := hrel
    have hcj : Hid (atI (r.drop 2) (p - at_ - 2) = atI (bs s) p) := by rw [atI_drop, HJ.out, show at_ + (2 + (p - at_ - 2)) = p by omega]; rfl
    have fin : (isHex (atI (bs s) p) = false ∨ p = at_ + 12) → Hid ((p < at_ + 3 → N = 0 ∧ T = 0) ∧ (at_ + 11 ≤ p → N = 0 ∧ T = 0) ∧ (at_ + 3 ≤ p ∧ p ≤ at_ + 10 → (inW (atI (bs s) p) = true → N = 0 ∧ T = 0) ∧ (inW (atI (bs s) p) = false → N = n ∧ T = (p : Int)))) := by
      intro hx
      obtain ⟨i1, i2, i3⟩ := hI.out
      have hle : p ≠ at_ + 12 → lenW isHex (r.drop 2) = p - at_ - 2 := fun hne => lenW_here' isHex isHex_zero _ _ i2 (by rw [hcj.out]; exact hx.resolve_right hne)
      have hw : atI r (2 + (p - at_ - 2)) = atI (bs s) p := by rw [HJ.out]; congr 1; omega
      refine ⟨fun h0 => ?_, fun h9 => ?_, fun h18 => ⟨fun hin => ?_, fun hin => ?_⟩⟩
      · exact HA.out.1 (hexR_none0 r H0.out H1.out (by rw [hle (by omega)]; omega))
      · exact HA.out.1 (hexR_none9 r H0.out H1.out (by omega))
      · exact HA.out.1 (hexR_word r H0.out H1.out (p - at_ - 2) (by omega) (hle (by omega)) (by rw [hw]; exact hin))
      · have := HA.out.2 _ _ (hexR_good r H0.out H1.out (p - at_ - 2) (by omega) (by omega) (hle (by omega)) (by rw [hw]; exact hin)) (by omega)
        refine ⟨by rw [this.1, i3], by rw [this.2]; omega⟩
    by_cases hlt : p < s.size
    · have hgj := atI_get s p hlt
      have hlti : (p : Int) < (s.size : Int) := by omega
      obtain ⟨c, hc⟩ : ∃ c, c = atI (bs s) p := ⟨_, rfl⟩
      rw [← hc] at hgj fin
      have hcH := Hid.intro hc
      clear hc
      cases hx : isHex c
      · have hF := fin (Or.inl hx)
        have hcall : ∀ w, Calls Tryd.prog 67 #[.int .u8 c] w fun e w' => e = .returned (.int .i64 (-1)) ∧ w' = w := fun w => by rw [← hexI_neg c hx]; exact refHex_any c w
        have hC := Hid.intro hcall
        clear hcall fin
        by_cases h0 : p < at_ + 3
        · have hR := Hid.intro (hF.out.1 h0)
          go_wp2_with (first
            | (go_at_call 67; with_reducible refine (hC.out _).mono ?_; rintro e w' ⟨rfl, rfl⟩)
            | (go_at_call 48; with_reducible refine (refLetter_any _ _).mono ?_; rintro e w' ⟨rfl, rfl⟩)
            | (go_at_call 49; with_reducible refine (refDigit_any _ _).mono ?_; rintro e w' ⟨rfl, rfl⟩))
          all_goals first
            | omega
            | (go_ret2; exact ⟨by rw [hR.out.1, hR.out.2]; rfl, rfl⟩)
        · by_cases h9 : at_ + 11 ≤ p
          · have hR := Hid.intro (hF.out.2.1 h9)
            go_wp2_with (first
              | (go_at_call 67; with_reducible refine (hC.out _).mono ?_; rintro e w' ⟨rfl, rfl⟩)
              | (go_at_call 48; with_reducible refine (refLetter_any _ _).mono ?_; rintro e w' ⟨rfl, rfl⟩)
              | (go_at_call 49; with_reducible refine (refDigit_any _ _).mono ?_; rintro e w' ⟨rfl, rfl⟩))
            all_goals first
              | omega
              | (go_ret2; exact ⟨by rw [hR.out.1, hR.out.2]; rfl, rfl⟩)
          · have hn1 := hex_small (p - at_ - 2) n (by omega) hI.out.1
            have h18 := hF.out.2.2 (by omega)
            cases hl : isLet c
            · cases hd : isDig c
              · have hR := Hid.intro (h18.2 (by simp [inW, hl, hd]))
                clear h18
                go_wp2_with (first
                  | (go_at_call 67; with_reducible refine (hC.out _).mono ?_; rintro e w' ⟨rfl, rfl⟩)
                  | (go_at_call 48; with_reducible refine (refLetter_any _ _).mono ?_; rintro e w' ⟨rfl, rfl⟩)
                  | (go_at_call 49; with_reducible refine (refDigit_any _ _).mono ?_; rintro e w' ⟨rfl, rfl⟩))
                all_goals first
                  | omega
                  | (go_ret2; exact ⟨by rw [hR.out.1, hR.out.2]; rfl, rfl⟩)
              · have hR := Hid.intro (h18.1 (by simp [inW, hd]))
                clear h18
                go_wp2_with (first
                  | (go_at_call 67; with_reducible refine (hC.out _).mono ?_; rintro e w' ⟨rfl, rfl⟩)
                  | (go_at_call 48; with_reducible refine (refLetter_any _ _).mono ?_; rintro e w' ⟨rfl, rfl⟩)
                  | (go_at_call 49; with_reducible refine (refDigit_any _ _).mono ?_; rintro e w' ⟨rfl, rfl⟩))
                all_goals first
                  | omega
                  | (go_ret2; exact ⟨by rw [hR.out.1, hR.out.2]; rfl, rfl⟩)
            · have hR := Hid.intro (h18.1 (by simp [inW, hl]))
              clear h18
              go_wp2_with (first
                | (go_at_call 67; with_reducible refine (hC.out _).mono ?_; rintro e w' ⟨rfl, rfl⟩)
                | (go_at_call 48; with_reducible refine (refLetter_any _ _).mono ?_; rintro e w' ⟨rfl, rfl⟩)
                | (go_at_call 49; with_reducible refine (refDigit_any _ _).mono ?_; rintro e w' ⟨rfl, rfl⟩))
              all_goals first
                | omega
                | (go_ret2; exact ⟨by rw [hR.out.1, hR.out.2]; rfl, rfl⟩)
      · have hcall : ∀ w, Calls Tryd.prog 67 #[.int .u8 c] w fun e w' => e = .returned (.int .i64 (digI c)) ∧ w' = w := fun w => by rw [← hexI_eq c hx]; exact refHex_any c w
        have hC := Hid.intro hcall
        obtain ⟨d0, d1⟩ := digI_lo c hx
        clear hcall
        by_cases h10 : at_ + 12 ≤ p
        · have hF := fin (Or.inr (by omega))
          have hR := Hid.intro (hF.out.2.1 (by omega))
          clear fin
          go_wp2_with (first
            | (go_at_call 67; with_reducible refine (hC.out _).mono ?_; rintro e w' ⟨rfl, rfl⟩)
            | (go_at_call 48; with_reducible refine (refLetter_any _ _).mono ?_; rintro e w' ⟨rfl, rfl⟩)
            | (go_at_call 49; with_reducible refine (refDigit_any _ _).mono ?_; rintro e w' ⟨rfl, rfl⟩))
          all_goals first
            | omega
            | (go_ret2; exact ⟨by rw [hR.out.1, hR.out.2]; rfl, rfl⟩)
        · obtain ⟨i1, i2, i3⟩ := hI.out
          obtain ⟨q0, q1, q2⟩ := hex_step10 (p - at_ - 2) n (digI c) (by omega) n0 i1 d0 d1
          have hNew : Hid (16 * n + digI c < 16 ^ (p + 1 - at_ - 2) ∧ p + 1 - at_ - 2 ≤ lenW isHex (r.drop 2) ∧ 16 * n + digI c = val 16 0 ((r.drop 2).take (p + 1 - at_ - 2))) := by
            rw [show p + 1 - at_ - 2 = p - at_ - 2 + 1 by omega]
            refine ⟨q1, lenW_up isHex isHex_zero _ _ i2 (by rw [hcj.out, ← hcH.out]; exact hx), ?_⟩
            rw [val_snoc 16 (r.drop 2) (p - at_ - 2) (by rw [List.length_drop, HL.out]; omega), ← i3, hcj.out, ← hcH.out]
          clear fin q1 i1 i2 i3
          go_wp2_with (first
            | (go_at_call 67; with_reducible refine (hC.out _).mono ?_; rintro e w' ⟨rfl, rfl⟩)
            | (go_at_call 48; with_reducible refine (refLetter_any _ _).mono ?_; rintro e w' ⟨rfl, rfl⟩)
            | (go_at_call 49; with_reducible refine (refDigit_any _ _).mono ?_; rintro e w' ⟨rfl, rfl⟩))
          all_goals first
            | omega
            | skip
          go_round
          case rel => exact ⟨p + 1, _, by omega, by omega, by omega, by go_num, rfl, by omega, by first | exact hNew | (rw [show n * 16 + digI c = 16 * n + digI c by omega]; exact hNew)⟩
          case measure => simp [intOf]; omega
    · have hz0 : atI (bs s) p = 0 := atI_out _ _ (by rw [bs_length]; omega)
      have hF := fin (Or.inl (by rw [hz0]; rfl))
      have hge : ¬ ((p : Int) < (s.size : Int)) := by omega
      clear fin hz0
      by_cases h0 : p < at_ + 3
      · have hR := Hid.intro (hF.out.1 h0)
        go_wp2_with (first
          | (go_at_call 67; with_reducible refine (refHex_any _ _).mono ?_; rintro e w' ⟨rfl, rfl⟩)
          | (go_at_call 48; with_reducible refine (refLetter_any _ _).mono ?_; rintro e w' ⟨rfl, rfl⟩)
          | (go_at_call 49; with_reducible refine (refDigit_any _ _).mono ?_; rintro e w' ⟨rfl, rfl⟩))
        all_goals first
          | omega
          | (go_ret2; exact ⟨by rw [hR.out.1, hR.out.2]; rfl, rfl⟩)
      · by_cases h9 : at_ + 11 ≤ p
        · have hR := Hid.intro (hF.out.2.1 h9)
          go_wp2_with (first
            | (go_at_call 67; with_reducible refine (refHex_any _ _).mono ?_; rintro e w' ⟨rfl, rfl⟩)
            | (go_at_call 48; with_reducible refine (refLetter_any _ _).mono ?_; rintro e w' ⟨rfl, rfl⟩)
            | (go_at_call 49; with_reducible refine (refDigit_any _ _).mono ?_; rintro e w' ⟨rfl, rfl⟩))
          all_goals first
            | omega
            | (go_ret2; exact ⟨by rw [hR.out.1, hR.out.2]; rfl, rfl⟩)
        · have hn1 := hex_small (p - at_ - 2) n (by omega) hI.out.1
          have h18 := hF.out.2.2 (by omega)
          have hz : atI (bs s) p = 0 := atI_out _ _ (by rw [bs_length]; omega)
          have hR := Hid.intro (h18.2 (by rw [hz]; rfl))
          clear h18 hz
          go_wp2_with (first
            | (go_at_call 67; with_reducible refine (refHex_any _ _).mono ?_; rintro e w' ⟨rfl, rfl⟩)
            | (go_at_call 48; with_reducible refine (refLetter_any _ _).mono ?_; rintro e w' ⟨rfl, rfl⟩)
            | (go_at_call 49; with_reducible refine (refDigit_any _ _).mono ?_; rintro e w' ⟨rfl, rfl⟩))
          all_goals first
            | omega
            | (go_ret2; exact ⟨by rw [hR.out.1, hR.out.2]; rfl, rfl⟩)
end Go.Proofs.YtijdjljnppkhmaaDoor
