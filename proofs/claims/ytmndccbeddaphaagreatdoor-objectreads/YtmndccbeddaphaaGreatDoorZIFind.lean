/- IFind: what the document's Right wants besides. -/
import Derived.Test.YtmndccbeddaphaaGreatDoorNum2
import Derived.Test.YtmndccbeddaphaaGreatDoorOcGets0
import Derived.Lib.Bytealg
import Derived.Lib.IndexAny
import Derived.Lib.Strings
import Derived.Test.YtmndccbeddaphaaGreatDoorEr1
import Derived.Test.YtmndccbeddaphaaGreatDoorNames
import Derived.Test.YtmndccbeddaphaaGreatDoorICheck
/- Base: what the document's Right wants besides. -/
namespace Go.Proofs.YtmndccbeddaphaaGreatDoor
open Go.ChangeShapes Go.WideShapes Go.ChangeAt Go.RowKit
set_option linter.unusedVariables false
set_option maxRecDepth 100000
theorem refLetter_any (c : Int) (w : World) :
    Calls Tryz.prog 97 #[.int .u8 c] w fun e w' => e = .returned (.bool (isLet c)) ∧ w' = w := by
  go_enter Tryz.func97, Tryz.ntmps97
  go_wp2
  all_goals
    go_ret
    refine ret_bool ?_
    first
      | rfl
      | (rw [Bool.eq_iff_iff]; simp [isLet]; try omega)
theorem refDigit_any (c : Int) (w : World) :
    Calls Tryz.prog 98 #[.int .u8 c] w fun e w' => e = .returned (.bool (isDig c)) ∧ w' = w := by
  go_enter Tryz.func98, Tryz.ntmps98
  go_wp2
  all_goals
    go_ret
    refine ret_bool ?_
    first
      | rfl
      | (rw [Bool.eq_iff_iff]; simp [isDig]; try omega)
end Go.Proofs.YtmndccbeddaphaaGreatDoor
/- Spec: what the document's Right wants besides. -/
namespace Go.Proofs.YtmndccbeddaphaaGreatDoor
set_option linter.unusedVariables false
set_option maxRecDepth 100000
theorem atI_succ_cons (b : UInt8) (r : List UInt8) (k : Nat) : atI (b :: r) (k + 1) = atI r k := by simp [atI]
theorem lenW_end (p : Int → Bool) (hp : p 0 = false) (r : List UInt8) : p (atI r (lenW p r)) = false := by
  induction r with
  | nil => simpa [atI_nil] using hp
  | cons b r ih =>
    cases h : p (b.toNat : Int)
    · rw [lenW_stop p _ (by rw [atI_zero_cons]; exact h), atI_zero_cons]; exact h
    · have := (lenW_more p hp (b :: r) (by rw [atI_zero_cons]; exact h)).1
      rw [this, List.drop_one, List.tail_cons, atI_succ_cons]
      exact ih
theorem lenW_in (p : Int → Bool) (r : List UInt8) (k : Nat) (h : k < lenW p r) : p (atI r k) = true := by
  induction r generalizing k with
  | nil => simp [lenW] at h
  | cons b r ih =>
    cases hb : p (b.toNat : Int)
    · rw [lenW_stop p _ (by rw [atI_zero_cons]; exact hb)] at h; omega
    · cases k with
      | zero => rw [atI_zero_cons]; exact hb
      | succ k =>
        rw [atI_succ_cons]
        apply ih
        simp [lenW, List.takeWhile, hb] at h ⊢
        exact h
end Go.Proofs.YtmndccbeddaphaaGreatDoor
/- Names2: what the document's Right wants besides. -/
namespace Go.Proofs.YtmndccbeddaphaaGreatDoor
open Go.ChangeShapes Go.WideShapes Go.ChangeAt Go.RowKit
set_option linter.unusedVariables false
set_option maxRecDepth 100000
theorem refRegister_any (s : ByteArray) (hs : s.size ≤ 4611686018427387904) (w : World) :
    Calls Tryz.prog 99 #[.string s] w fun e w' => e = .returned (.tuple #[.int .i64 (regN s), .bool (isZ s), .bool (isR s || isZ s)]) ∧ w' = w := by
  by_cases h2 : s.size = 2
  · have g0 := atI_get s 0 (by omega)
    have g1 := atI_get s 1 (by omega)
    have l1 := atI_lo (bs s) 1
    have m1 := atI_hi (bs s) 1
    obtain ⟨c0, hc0⟩ : ∃ c, c = atI (bs s) 0 := ⟨_, rfl⟩
    obtain ⟨c1, hc1⟩ : ∃ c, c = atI (bs s) 1 := ⟨_, rfl⟩
    have er : isR s = decide (c0 = 114 ∧ 48 ≤ c1 ∧ c1 ≤ 55) := by simp [isR, h2, hc0, hc1]
    have ez : isZ s = decide (c0 = 122 ∧ 48 ≤ c1 ∧ c1 ≤ 51) := by simp [isZ, h2, hc0, hc1]
    have en : regN s = if isR s || isZ s then c1 - 48 else 0 := by rw [hc1]; rfl
    rw [← hc0] at g0
    rw [← hc1] at g1 l1 m1
    rw [en, er, ez]
    clear er ez en hc0 hc1
    by_cases hr : c0 = 114 ∧ 48 ≤ c1 ∧ c1 ≤ 55
    · have e1 : decide (c0 = 114 ∧ 48 ≤ c1 ∧ c1 ≤ 55) = true := by simp; omega
      have e2 : decide (c0 = 122 ∧ 48 ≤ c1 ∧ c1 ≤ 51) = false := by simp; omega
      rw [e1, e2]
      simp only [Bool.true_or, if_true]
      obtain ⟨hr1, hr2, hr3⟩ := hr
      clear e1 e2
      subst hr1
      go_enter Tryz.func99, Tryz.ntmps99
      go_wp2
      all_goals first
        | omega
        | (go_ret3; exact ⟨rfl, rfl⟩)
    · have e1 : decide (c0 = 114 ∧ 48 ≤ c1 ∧ c1 ≤ 55) = false := by simp; omega
      by_cases hz : c0 = 122 ∧ 48 ≤ c1 ∧ c1 ≤ 51
      · have e2 : decide (c0 = 122 ∧ 48 ≤ c1 ∧ c1 ≤ 51) = true := by simp; omega
        rw [e1, e2]
        simp only [Bool.or_true, if_true]
        obtain ⟨hr1, hr2, hr3⟩ := hz
        clear e1 e2 hr
        subst hr1
        go_enter Tryz.func99, Tryz.ntmps99
        go_wp2
        all_goals first
          | omega
          | (go_ret3; exact ⟨rfl, rfl⟩)
      · have e2 : decide (c0 = 122 ∧ 48 ≤ c1 ∧ c1 ≤ 51) = false := by simp; omega
        rw [e1, e2]
        simp only [Bool.or_self, Bool.false_eq_true, if_false]
        clear e1 e2
        have hrH := Hid.intro hr
        have hzH := Hid.intro hz
        clear hr hz
        by_cases h1 : c0 = 114
        · have h1' : (c0 == 114) = true := by simp [h1]
          have h2' : (c0 == 122) = false := by simp; omega
          have h1H := Hid.intro h1
          clear h1
          go_enter Tryz.func99, Tryz.ntmps99
          go_wp2
          all_goals first
            | (exfalso; have := hrH.out; have := h1H.out; omega)
            | (go_ret3; exact ⟨rfl, rfl⟩)
        · have h1' : (c0 == 114) = false := by simp [h1]
          clear h1
          by_cases h3 : c0 = 122
          · have h3' : (c0 == 122) = true := by simp [h3]
            have h3H := Hid.intro h3
            clear h3
            go_enter Tryz.func99, Tryz.ntmps99
            go_wp2
            all_goals first
              | (exfalso; have := hzH.out; have := h3H.out; omega)
              | (go_ret3; exact ⟨rfl, rfl⟩)
          · have h3' : (c0 == 122) = false := by simp [h3]
            clear h3
            go_enter Tryz.func99, Tryz.ntmps99
            go_wp2
            go_ret3
            exact ⟨rfl, rfl⟩
  · have er : isR s = false := by simp [isR, h2]
    have ez : isZ s = false := by simp [isZ, h2]
    rw [reg_none s er ez, er, ez]
    have hn : ((s.size : Int) != 2) = true := by simp; omega
    clear er ez h2
    go_enter Tryz.func99, Tryz.ntmps99
    go_wp2
    go_ret3
    exact ⟨rfl, rfl⟩
end Go.Proofs.YtmndccbeddaphaaGreatDoor
/- Names3: what the document's Right wants besides. -/
namespace Go.Proofs.YtmndccbeddaphaaGreatDoor
open Go.ChangeShapes Go.WideShapes Go.ChangeAt Go.RowKit
set_option linter.unusedVariables false
set_option maxRecDepth 100000
theorem lenW_grow (p : Int → Bool) (hp : p 0 = false) (r : List UInt8) (k : Nat) (h : k ≤ lenW p r) (hc : p (atI r k) = true) : k + 1 ≤ lenW p r := by
  apply Decidable.byContradiction
  intro hn
  have e : lenW p r = k := by omega
  have := lenW_end p hp r
  rw [e, hc] at this
  cases this
theorem lenW_here (p : Int → Bool) (hp : p 0 = false) (r : List UInt8) (k : Nat) (h : k ≤ lenW p r) (hc : p (atI r k) = false) : lenW p r = k := by
  apply Decidable.byContradiction
  intro hn
  have := lenW_in p r k (by omega)
  rw [hc] at this
  cases this
set_option maxHeartbeats 1000000 in
theorem refLegal_any (s : ByteArray) (hs : s.size ≤ 1100000) (w : World) :
    Calls Tryz.prog 53 #[.string s] w fun e w' => e = .returned (.bool (legB s)) ∧ w' = w := by
  have hs2 : s.size ≤ 4611686018427387904 := by omega
  by_cases h1 : s.size < 1
  · have hl : legB s = false := by
      have : nameOK (bs s) = false := by
        cases h : nameOK (bs s)
        · rfl
        · simp only [nameOK, decide_eq_true_eq] at h
          have := (lenW_more inW inW_zero (bs s) (inW_of_let _ h.1)).2
          rw [bs_length] at this
          omega
      simp [legB, this]
    rw [hl]
    clear hl
    go_enter Tryz.func53, Tryz.ntmps53
    go_wp2
    all_goals first
      | omega
      | (go_ret; exact ⟨rfl, rfl⟩)
  · by_cases h32 : 32 < s.size
    · have hl : legB s = false := by
        have : nameOK (bs s) = false := by
          simp only [nameOK, decide_eq_false_iff_not]
          rw [bs_length]
          omega
        simp [legB, this]
      rw [hl]
      clear hl
      go_enter Tryz.func53, Tryz.ntmps53
      go_wp2
      all_goals first
        | omega
        | (go_ret; exact ⟨rfl, rfl⟩)
    · have hpos : 0 < s.size := by omega
      have hg0 := atI_get s 0 hpos
      have hle1 : ¬ ((s.size : Int) < 1) := by omega
      have hle2 : ¬ ((32 : Int) < (s.size : Int)) := by omega
      cases hlet : isLet (atI (bs s) 0)
      · have hl : legB s = false := by
          have : nameOK (bs s) = false := by
            simp only [nameOK, decide_eq_false_iff_not]
            rw [hlet]
            simp
          simp [legB, this]
        rw [hl]
        clear hl
        go_enter Tryz.func53, Tryz.ntmps53
        go_wp2_with (first
          | (go_at_call 97; refine (refLetter_any _ _).mono ?_; rintro e w' ⟨rfl, rfl⟩))
        all_goals first
          | omega
          | (go_ret; exact ⟨rfl, rfl⟩)
      · have hlH := Hid.intro hlet
        go_enter Tryz.func53, Tryz.ntmps53
        go_wp2_with (first
          | (go_at_call 97; refine (refLetter_any _ _).mono ?_; rintro e w' ⟨rfl, rfl⟩))
        all_goals first
          | omega
          | skip
        go_loop [3] (fun vi => ∃ k : Nat, k ≤ s.size ∧ vi = .int .i64 k ∧ Hid (k ≤ lenW inW (bs s))) (fun vi => s.size - (intOf vi).toNat)
        case atStart => exact ⟨0, by omega, rfl, Nat.zero_le _⟩
        case round =>
          obtain ⟨k, hk, rfl, hkl⟩ := hrel
          by_cases hlt : k < s.size
          · have hg := atI_get s k hlt
            cases hl : isLet (atI (bs s) k)
            · cases hd : isDig (atI (bs s) k)
              · have hw : lenW inW (bs s) = k := lenW_here inW inW_zero _ _ hkl.out (by simp [inW, hl, hd])
                have hlg : legB s = false := by
                  have : nameOK (bs s) = false := by
                    simp only [nameOK, decide_eq_false_iff_not]
                    rw [hw, bs_length]
                    omega
                  simp [legB, this]
                have hlgH := Hid.intro hlg
                clear hlg hw
                go_wp2_with (first
                  | (go_at_call 97; refine (refLetter_any _ _).mono ?_; rintro e w' ⟨rfl, rfl⟩)
                  | (go_at_call 98; refine (refDigit_any _ _).mono ?_; rintro e w' ⟨rfl, rfl⟩))
                all_goals first
                  | omega
                  | (go_ret; exact ⟨by rw [hlgH.out]; rfl, rfl⟩)
              · have hw := Hid.intro (lenW_grow inW inW_zero _ _ hkl.out (by simp [inW, hl, hd]))
                go_wp2_with (first
                  | (go_at_call 97; refine (refLetter_any _ _).mono ?_; rintro e w' ⟨rfl, rfl⟩)
                  | (go_at_call 98; refine (refDigit_any _ _).mono ?_; rintro e w' ⟨rfl, rfl⟩))
                all_goals first
                  | omega
                  | skip
                go_round
                case rel => exact ⟨k + 1, by omega, by go_num, hw⟩
                case measure => simp [intOf]; omega
            · have hw := Hid.intro (lenW_grow inW inW_zero _ _ hkl.out (by simp [inW, hl]))
              go_wp2_with (first
                | (go_at_call 97; refine (refLetter_any _ _).mono ?_; rintro e w' ⟨rfl, rfl⟩)
                | (go_at_call 98; refine (refDigit_any _ _).mono ?_; rintro e w' ⟨rfl, rfl⟩))
              all_goals first
                | omega
                | skip
              go_round
              case rel => exact ⟨k + 1, by omega, by go_num, hw⟩
              case measure => simp [intOf]; omega
          · have e : k = s.size := by omega
            subst e
            have hw : lenW inW (bs s) = (bs s).length := by
              have := lenW_le inW (bs s)
              rw [bs_length] at this ⊢
              have := hkl.out
              omega
            have hlg : legB s = !(isR s || isZ s) := by
              have : nameOK (bs s) = true := by
                simp only [nameOK, decide_eq_true_eq]
                refine ⟨hlH.out, hw, ?_⟩
                rw [bs_length]
                omega
              simp [legB, this]
            have hlgH := Hid.intro hlg
            clear hlg hw
            go_wp2_with (first
              | (go_at_call 99; refine (refRegister_any _ hs2 _).mono ?_; rintro e w' ⟨rfl, rfl⟩))
            all_goals first
              | omega
              | (go_ret; exact ⟨by rw [hlgH.out, Bool.not_or]; rfl, rfl⟩)
end Go.Proofs.YtmndccbeddaphaaGreatDoor
/- IBase: what the document's Right wants besides. -/
namespace Go.Proofs.YtmndccbeddaphaaGreatDoor
open Go.ChangeShapes Go.WideShapes Go.ChangeAt Go.RowKit
set_option linter.unusedVariables false
set_option maxRecDepth 100000
theorem fits_any (n m : Int) (w : World) :
    Calls Tryz.prog 121 #[.int .i32 n, .int .i64 m] w fun e w' => e = .returned (.bool (fitsB n m)) ∧ w' = w := by
  by_cases h1 : m = 1
  · subst h1
    have hs : fitsB n 1 = (decide (-128 ≤ n) && decide (n ≤ 127)) := by simp [fitsB]
    rw [hs]
    by_cases hl : -128 ≤ n
    · go_enter Tryz.func121, Tryz.ntmps121
      go_wp2
      go_ret
      exact ⟨by simp [hl], rfl⟩
    · have hd : decide (-128 ≤ n) = false := decide_eq_false hl
      rw [hd]
      go_enter Tryz.func121, Tryz.ntmps121
      go_wp2
      go_ret
      exact ⟨rfl, rfl⟩
  · have e1 : (m == 1) = false := by simpa using h1
    by_cases h2 : m = 2
    · subst h2
      have hs : fitsB n 2 = (decide (-32768 ≤ n) && decide (n ≤ 32767)) := by simp [fitsB]
      rw [hs]
      by_cases hl : -32768 ≤ n
      · go_enter Tryz.func121, Tryz.ntmps121
        go_wp2
        go_ret
        exact ⟨by simp [hl], rfl⟩
      · have hd : decide (-32768 ≤ n) = false := decide_eq_false hl
        rw [hd]
        go_enter Tryz.func121, Tryz.ntmps121
        go_wp2
        go_ret
        exact ⟨rfl, rfl⟩
    · have e2 : (m == 2) = false := by simpa using h2
      by_cases h4 : m = 4
      · subst h4
        go_enter Tryz.func121, Tryz.ntmps121
        go_wp2
        go_ret
        exact ⟨rfl, rfl⟩
      · have e4 : (m == 4) = false := by simpa using h4
        have hs : fitsB n m = false := by simp [fitsB, h1, h2, h4]
        rw [hs]
        go_enter Tryz.func121, Tryz.ntmps121
        go_wp2
        go_ret
        exact ⟨rfl, rfl⟩
end Go.Proofs.YtmndccbeddaphaaGreatDoor
namespace Go.Proofs.YtmndccbeddaphaaGreatDoor
open Go.ChangeShapes Go.WideShapes Go.ChangeAt Go.RowKit
set_option linter.unusedVariables false
set_option maxRecDepth 100000
def nm (s : ByteArray) : List UInt8 := s.data.toList
end Go.Proofs.YtmndccbeddaphaaGreatDoor
