/- Register and Legal, and the document's. -/
import Derived.Test.YtijdjljnppkhmabDoorKnown
namespace Go.Proofs.YtijdjljnppkhmabDoor
open Go.ChangeShapes Go.WideShapes Go.ChangeAt Go.RowKit
set_option linter.unusedVariables false
set_option maxRecDepth 100000

def isR (s : ByteArray) : Bool := decide (s.size = 2 ∧ atI (bs s) 0 = 114 ∧ 48 ≤ atI (bs s) 1 ∧ atI (bs s) 1 ≤ 55)
def isZ (s : ByteArray) : Bool := decide (s.size = 2 ∧ atI (bs s) 0 = 122 ∧ 48 ≤ atI (bs s) 1 ∧ atI (bs s) 1 ≤ 51)
def regN (s : ByteArray) : Int := if isR s || isZ s then atI (bs s) 1 - 48 else 0

theorem reg_none (s : ByteArray) (h1 : isR s = false) (h2 : isZ s = false) : regN s = 0 := by simp [regN, h1, h2]
theorem reg_r (s : ByteArray) (h1 : isR s = true) : regN s = atI (bs s) 1 - 48 ∧ isZ s = false := by
  refine ⟨by simp [regN, h1], ?_⟩
  simp [isR] at h1
  simp [isZ]
  omega
theorem reg_z (s : ByteArray) (h1 : isZ s = true) : regN s = atI (bs s) 1 - 48 ∧ isR s = false := by
  refine ⟨by simp [regN, h1], ?_⟩
  simp [isZ] at h1
  simp [isR]
  omega

theorem register_any (s : ByteArray) (hs : s.size ≤ 4611686018427387904) (w : World) :
    Calls Tryd.prog 78 #[.string s] w fun e w' => e = .returned (.tuple #[.int .i64 (regN s), .bool (isZ s), .bool (isR s || isZ s)]) ∧ w' = w := by
  by_cases h2 : s.size = 2
  · have g0 := atI_get s 0 (by omega)
    have g1 := atI_get s 1 (by omega)
    obtain ⟨c0, hc0⟩ : ∃ c, c = atI (bs s) 0 := ⟨_, rfl⟩
    obtain ⟨c1, hc1⟩ : ∃ c, c = atI (bs s) 1 := ⟨_, rfl⟩
    have er : isR s = decide (c0 = 114 ∧ 48 ≤ c1 ∧ c1 ≤ 55) := by simp [isR, h2, hc0, hc1]
    have ez : isZ s = decide (c0 = 122 ∧ 48 ≤ c1 ∧ c1 ≤ 51) := by simp [isZ, h2, hc0, hc1]
    have en : regN s = if isR s || isZ s then c1 - 48 else 0 := by rw [hc1]; rfl
    rw [← hc0] at g0
    rw [← hc1] at g1
    cases hd : isDig c1
    · have hnd : ¬ (48 ≤ c1 ∧ c1 ≤ 57) := by simpa [isDig] using hd
      have er' : isR s = false := by rw [er]; simp; omega
      have ez' : isZ s = false := by rw [ez]; simp; omega
      rw [en, er', ez']
      clear er ez en er' ez' hc0 hc1
      go_enter Tryd.func78, Tryd.ntmps78
      go_wp2_with (first
        | (go_at_call 85; refine (isDigit_any _ _).mono ?_; rintro e w' ⟨rfl, rfl⟩))
      go_ret3
      exact ⟨rfl, rfl⟩
    · have hx := isHex_of_dig _ hd
      obtain ⟨b0, b1⟩ : 48 ≤ c1 ∧ c1 ≤ 57 := by simpa [isDig] using hd
      have hv : digI c1 = c1 - 48 := by unfold digI; rw [if_pos ⟨b0, b1⟩]
      have hcall : ∀ w, Calls Tryd.prog 89 #[.int .u8 c1] w fun e w' => e = .returned (.int .u64 (c1 - 48)) ∧ w' = w := fun w => by rw [← hv]; exact digit_any c1 hx w
      have hH := Hid.intro hcall
      clear hcall hv
      rw [en, er, ez]
      clear er ez en hc0 hc1
      by_cases hr : c0 = 114
      · have hr' : (c0 == 114) = true := by simp [hr]
        by_cases hlt : c1 ≤ 55
        · have e1 : decide (c0 = 114 ∧ 48 ≤ c1 ∧ c1 ≤ 55) = true := by simp; omega
          have e2 : decide (c0 = 122 ∧ 48 ≤ c1 ∧ c1 ≤ 51) = false := by simp; omega
          rw [e1, e2]
          simp only [Bool.true_or, if_true]
          clear e1 e2 hr
          go_enter Tryd.func78, Tryd.ntmps78
          go_wp2_with (first
            | (go_at_call 85; refine (isDigit_any _ _).mono ?_; rintro e w' ⟨rfl, rfl⟩)
            | (go_at_call 89; refine (hH.out _).mono ?_; rintro e w' ⟨rfl, rfl⟩))
          all_goals first
            | omega
            | (go_ret3; exact ⟨rfl, rfl⟩)
        · have e1 : decide (c0 = 114 ∧ 48 ≤ c1 ∧ c1 ≤ 55) = false := by simp; omega
          have e2 : decide (c0 = 122 ∧ 48 ≤ c1 ∧ c1 ≤ 51) = false := by simp; omega
          rw [e1, e2]
          simp only [Bool.or_self, Bool.false_eq_true, if_false]
          clear e1 e2
          have hz' : (c0 == 122) = false := by simp; omega
          clear hr
          go_enter Tryd.func78, Tryd.ntmps78
          go_wp2_with (first
            | (go_at_call 85; refine (isDigit_any _ _).mono ?_; rintro e w' ⟨rfl, rfl⟩)
            | (go_at_call 89; refine (hH.out _).mono ?_; rintro e w' ⟨rfl, rfl⟩))
          all_goals first
            | omega
            | (go_ret3; exact ⟨rfl, rfl⟩)
      · have hr' : (c0 == 114) = false := by simp [hr]
        by_cases hz : c0 = 122
        · have hz' : (c0 == 122) = true := by simp [hz]
          by_cases hlt : c1 ≤ 51
          · have e1 : decide (c0 = 114 ∧ 48 ≤ c1 ∧ c1 ≤ 55) = false := by simp; omega
            have e2 : decide (c0 = 122 ∧ 48 ≤ c1 ∧ c1 ≤ 51) = true := by simp; omega
            rw [e1, e2]
            simp only [Bool.or_true, if_true]
            clear e1 e2 hr hz
            go_enter Tryd.func78, Tryd.ntmps78
            go_wp2_with (first
              | (go_at_call 85; refine (isDigit_any _ _).mono ?_; rintro e w' ⟨rfl, rfl⟩)
              | (go_at_call 89; refine (hH.out _).mono ?_; rintro e w' ⟨rfl, rfl⟩))
            all_goals first
              | omega
              | (go_ret3; exact ⟨rfl, rfl⟩)
          · have e1 : decide (c0 = 114 ∧ 48 ≤ c1 ∧ c1 ≤ 55) = false := by simp; omega
            have e2 : decide (c0 = 122 ∧ 48 ≤ c1 ∧ c1 ≤ 51) = false := by simp; omega
            rw [e1, e2]
            simp only [Bool.or_self, Bool.false_eq_true, if_false]
            clear e1 e2 hr hz
            go_enter Tryd.func78, Tryd.ntmps78
            go_wp2_with (first
              | (go_at_call 85; refine (isDigit_any _ _).mono ?_; rintro e w' ⟨rfl, rfl⟩)
              | (go_at_call 89; refine (hH.out _).mono ?_; rintro e w' ⟨rfl, rfl⟩))
            all_goals first
              | omega
              | (go_ret3; exact ⟨rfl, rfl⟩)
        · have hz' : (c0 == 122) = false := by simp [hz]
          have e1 : decide (c0 = 114 ∧ 48 ≤ c1 ∧ c1 ≤ 55) = false := by simp; omega
          have e2 : decide (c0 = 122 ∧ 48 ≤ c1 ∧ c1 ≤ 51) = false := by simp; omega
          rw [e1, e2]
          simp only [Bool.or_self, Bool.false_eq_true, if_false]
          clear e1 e2 hr hz
          go_enter Tryd.func78, Tryd.ntmps78
          go_wp2_with (first
            | (go_at_call 85; refine (isDigit_any _ _).mono ?_; rintro e w' ⟨rfl, rfl⟩)
            | (go_at_call 89; refine (hH.out _).mono ?_; rintro e w' ⟨rfl, rfl⟩))
          all_goals first
            | omega
            | (go_ret3; exact ⟨rfl, rfl⟩)
  · have er : isR s = false := by simp [isR, h2]
    have ez : isZ s = false := by simp [isZ, h2]
    rw [reg_none s er ez, er, ez]
    have hn : ((s.size : Int) != 2) = true := by simp; omega
    clear er ez h2
    go_enter Tryd.func78, Tryd.ntmps78
    go_wp2
    go_ret3
    exact ⟨rfl, rfl⟩
end Go.Proofs.YtijdjljnppkhmabDoor
