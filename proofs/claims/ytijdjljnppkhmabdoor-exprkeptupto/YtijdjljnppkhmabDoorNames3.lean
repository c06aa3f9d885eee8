/- The document's Legal. -/
import Derived.Test.YtijdjljnppkhmabDoorNames2
namespace Go.Proofs.YtijdjljnppkhmabDoor
open Go.ChangeShapes Go.WideShapes Go.ChangeAt Go.RowKit
set_option linter.unusedVariables false
set_option maxRecDepth 100000

theorem lenW_grow (p : Int → Bool) (hp : p 0 = false) (r : List UInt8) (k : Nat) (h : k ≤ lenW p r) (hc : p (atI r k) = true) : k + 1 ≤ lenW p r := by
  apply Decidable.byContradiction
  intro hn
  have e : lenW p r = k := by omega
  have := lenW_end p hp r
  rw [e, hc] at this
  cases this
theorem lenW_here (p : Int → Bool) (hp : p 0 = false) (r : List UInt8) (k : Nat) (h : k ≤ lenW p r) (hc : p (atI r k) = false) : lenW p r = k := by
  apply Decidable.byContradiction
  intro hn
  have := lenW_in p r k (by omega)
  rw [hc] at this
  cases this

set_option maxHeartbeats 1000000 in
theorem refLegal_any (s : ByteArray) (hs : s.size ≤ 1100000) (w : World) :
    Calls Tryd.prog 17 #[.string s] w fun e w' => e = .returned (.bool (legB s)) ∧ w' = w := by
  have hs2 : s.size ≤ 4611686018427387904 := by omega
  by_cases h1 : s.size < 1
  · have hl : legB s = false := by
      have : nameOK (bs s) = false := by
        cases h : nameOK (bs s)
        · rfl
        · simp only [nameOK, decide_eq_true_eq] at h
          have := (lenW_more inW inW_zero (bs s) (inW_of_let _ h.1)).2
          rw [bs_length] at this
          omega
      simp [legB, this]
    rw [hl]
    clear hl
    go_enter Tryd.func17, Tryd.ntmps17
    go_wp2
    all_goals first
      | omega
      | (go_ret; exact ⟨rfl, rfl⟩)
  · by_cases h32 : 32 < s.size
    · have hl : legB s = false := by
        have : nameOK (bs s) = false := by
          simp only [nameOK, decide_eq_false_iff_not]
          rw [bs_length]
          omega
        simp [legB, this]
      rw [hl]
      clear hl
      go_enter Tryd.func17, Tryd.ntmps17
      go_wp2
      all_goals first
        | omega
        | (go_ret; exact ⟨rfl, rfl⟩)
    · have hpos : 0 < s.size := by omega
      have hg0 := atI_get s 0 hpos
      have hle1 : ¬ ((s.size : Int) < 1) := by omega
      have hle2 : ¬ ((32 : Int) < (s.size : Int)) := by omega
      cases hlet : isLet (atI (bs s) 0)
      · have hl : legB s = false := by
          have : nameOK (bs s) = false := by
            simp only [nameOK, decide_eq_false_iff_not]
            rw [hlet]
            simp
          simp [legB, this]
        rw [hl]
        clear hl
        go_enter Tryd.func17, Tryd.ntmps17
        go_wp2_with (first
          | (go_at_call 31; refine (refLetter_any _ _).mono ?_; rintro e w' ⟨rfl, rfl⟩))
        all_goals first
          | omega
          | (go_ret; exact ⟨rfl, rfl⟩)
      · have hlH := Hid.intro hlet
        go_enter Tryd.func17, Tryd.ntmps17
        go_wp2_with (first
          | (go_at_call 31; refine (refLetter_any _ _).mono ?_; rintro e w' ⟨rfl, rfl⟩))
        all_goals first
          | omega
          | skip
        go_loop [3] (fun vi => ∃ k : Nat, k ≤ s.size ∧ vi = .int .i64 k ∧ Hid (k ≤ lenW inW (bs s))) (fun vi => s.size - (intOf vi).toNat)
        case atStart => exact ⟨0, by omega, rfl, Nat.zero_le _⟩
        case round =>
          obtain ⟨k, hk, rfl, hkl⟩ := hrel
          by_cases hlt : k < s.size
          · have hg := atI_get s k hlt
            cases hl : isLet (atI (bs s) k)
            · cases hd : isDig (atI (bs s) k)
              · have hw : lenW inW (bs s) = k := lenW_here inW inW_zero _ _ hkl.out (by simp [inW, hl, hd])
                have hlg : legB s = false := by
                  have : nameOK (bs s) = false := by
                    simp only [nameOK, decide_eq_false_iff_not]
                    rw [hw, bs_length]
                    omega
                  simp [legB, this]
                have hlgH := Hid.intro hlg
                clear hlg hw
                go_wp2_with (first
                  | (go_at_call 31; refine (refLetter_any _ _).mono ?_; rintro e w' ⟨rfl, rfl⟩)
                  | (go_at_call 32; refine (refDigit_any _ _).mono ?_; rintro e w' ⟨rfl, rfl⟩))
                all_goals first
                  | omega
                  | (go_ret; exact ⟨by rw [hlgH.out]; rfl, rfl⟩)
              · have hw := Hid.intro (lenW_grow inW inW_zero _ _ hkl.out (by simp [inW, hl, hd]))
                go_wp2_with (first
                  | (go_at_call 31; refine (refLetter_any _ _).mono ?_; rintro e w' ⟨rfl, rfl⟩)
                  | (go_at_call 32; refine (refDigit_any _ _).mono ?_; rintro e w' ⟨rfl, rfl⟩))
                all_goals first
                  | omega
                  | skip
                go_round
                case rel => exact ⟨k + 1, by omega, by go_num, hw⟩
                case measure => simp [intOf]; omega
            · have hw := Hid.intro (lenW_grow inW inW_zero _ _ hkl.out (by simp [inW, hl]))
              go_wp2_with (first
                | (go_at_call 31; refine (refLetter_any _ _).mono ?_; rintro e w' ⟨rfl, rfl⟩)
                | (go_at_call 32; refine (refDigit_any _ _).mono ?_; rintro e w' ⟨rfl, rfl⟩))
              all_goals first
                | omega
                | skip
              go_round
              case rel => exact ⟨k + 1, by omega, by go_num, hw⟩
              case measure => simp [intOf]; omega
          · have e : k = s.size := by omega
            subst e
            have hw : lenW inW (bs s) = (bs s).length := by
              have := lenW_le inW (bs s)
              rw [bs_length] at this ⊢
              have := hkl.out
              omega
            have hlg : legB s = !(isR s || isZ s) := by
              have : nameOK (bs s) = true := by
                simp only [nameOK, decide_eq_true_eq]
                refine ⟨hlH.out, hw, ?_⟩
                rw [bs_length]
                omega
              simp [legB, this]
            have hlgH := Hid.intro hlg
            clear hlg hw
            go_wp2_with (first
              | (go_at_call 33; refine (refRegister_any _ hs2 _).mono ?_; rintro e w' ⟨rfl, rfl⟩))
            all_goals first
              | omega
              | (go_ret; exact ⟨by rw [hlgH.out, Bool.not_or]; rfl, rfl⟩)

end Go.Proofs.YtijdjljnppkhmabDoor
