/- lex.numberAt: the contract. -/
import Derived.Test.YtijdjljnppkhmaaDoorNum2
namespace Go.Proofs.YtijdjljnppkhmaaDoor
open Go.ChangeShapes Go.WideShapes Go.ChangeAt Go.RowKit
set_option linter.unusedVariables false
set_option maxRecDepth 100000

theorem res_of (r : List UInt8) (at_ : Nat) (bad : Prop) (v : Int) (k : Nat) (h1 : bad → numAt r = none) (h2 : ¬ bad → numAt r = some (v, k)) :
    Res (numN r) ((at_ : Int) + numL r) at_ bad v (at_ + k) := by
  refine ⟨fun hb => ?_, fun hb => ?_⟩
  · simp [numN, numL, h1 hb]
  · simp [numN, numL, h2 hb]

theorem num_quoted (r : List UInt8) (at_ : Nat) (h : atI r 0 = 39) :
    Res (numN r) ((at_ : Int) + numL r) at_ (¬ (isQuo (atI r 1) = true ∧ atI r 2 = 39)) (atI r 1) (at_ + 3) := by
  apply res_of
  · intro hb; unfold numAt; rw [if_pos h, if_neg hb]
  · intro hb; unfold numAt; rw [if_pos h, if_pos (Decidable.not_not.1 hb)]

theorem num_hex (r : List UInt8) (at_ : Nat) (h : atI r 0 = 48) (h1 : atI r 1 = 120) :
    Res (numN r) ((at_ : Int) + numL r) at_ (hexLen 8 (r.drop 2) = 0 ∨ inW (atI r (2 + hexLen 8 (r.drop 2))) = true) (val 16 0 ((r.drop 2).take (hexLen 8 (r.drop 2)))) (at_ + (2 + hexLen 8 (r.drop 2))) := by
  apply res_of
  · intro hb; unfold numAt; rw [if_neg (by omega), if_pos ⟨h, h1⟩, if_pos hb]
  · intro hb; unfold numAt; rw [if_neg (by omega), if_pos ⟨h, h1⟩, if_neg hb]

theorem num_zero (r : List UInt8) (at_ : Nat) (h : atI r 0 = 48) (h1 : ¬ atI r 1 = 120) :
    Res (numN r) ((at_ : Int) + numL r) at_ (inW (atI r 1) = true) 0 (at_ + 1) := by
  apply res_of
  · intro hb; unfold numAt; rw [if_neg (by omega), if_neg (fun x => h1 x.2), if_pos h, if_pos hb]
  · intro hb; unfold numAt; rw [if_neg (by omega), if_neg (fun x => h1 x.2), if_pos h, if_neg hb]

theorem num_dec (r : List UInt8) (at_ : Nat) (h : ¬ atI r 0 = 39) (h1 : ¬ atI r 0 = 48) :
    Res (numN r) ((at_ : Int) + numL r) at_ (4294967295 < val 10 0 (r.take (lenW isDig r)) ∨ inW (atI r (lenW isDig r)) = true) (val 10 0 (r.take (lenW isDig r))) (at_ + lenW isDig r) := by
  apply res_of
  · intro hb; unfold numAt; rw [if_neg h, if_neg (fun x => h1 x.1), if_neg h1, if_pos hb]
  · intro hb; unfold numAt; rw [if_neg h, if_neg (fun x => h1 x.1), if_neg h1, if_neg hb]

theorem numberAt_any (s : ByteArray) (at_ : Nat) (ha : at_ < s.size) (hs : s.size ≤ 4611686018427387800) (hd : isDig (atI (bs s) at_) = true ∨ atI (bs s) at_ = 39) (w : World) :
    Calls Tryd.prog 80 #[.string s, .int .i64 (at_ : Int)] w fun e w' => e = .returned (.tuple #[.int .u32 (numN ((bs s).drop at_)), .int .i64 ((at_ : Int) + numL ((bs s).drop at_))]) ∧ w' = w := by
  have hg := atI_get s at_ ha
  have hs2 : s.size ≤ 4611686018427387904 := by omega
  have r0 : atI ((bs s).drop at_) 0 = atI (bs s) at_ := by rw [atI_drop, Nat.add_zero]
  have r1 : atI ((bs s).drop at_) 1 = atI (bs s) (at_ + 1) := by rw [atI_drop]
  have r2 : atI ((bs s).drop at_) 2 = atI (bs s) (at_ + 2) := by rw [atI_drop]
  have e1 : ((at_ : Int) + 1).toNat = at_ + 1 := by omega
  obtain ⟨N, hN⟩ : ∃ N, N = numN ((bs s).drop at_) := ⟨_, rfl⟩
  obtain ⟨T, hT⟩ : ∃ T, T = (at_ : Int) + numL ((bs s).drop at_) := ⟨_, rfl⟩
  rw [← hN, ← hT]
  by_cases hq : atI (bs s) at_ = 39
  · have hR := Hid.intro (num_quoted ((bs s).drop at_) at_ (by rw [r0]; exact hq))
    rw [r1, r2, ← hN, ← hT] at hR
    clear hN hT r0 r1 r2 hd
    go_enter Tryd.func80, Tryd.ntmps80
    go_wp2
    refine wp_scope_at (Q := Q28 N T _) Tryd.f80 rfl ?_
    go_wp2_with (first
      | (go_at_call 74; refine (byteAt_int _ _ (by omega) (by omega) (by assumption) _).mono ?_; rintro e w' ⟨rfl, rfl⟩)
      | (go_at_call 79; refine (inWord_any _ _).mono ?_; rintro e w' ⟨rfl, rfl⟩)
      | (go_at_call 77; refine (isDigit_any _ _).mono ?_; rintro e w' ⟨rfl, rfl⟩)
      | (go_at_call 98; refine (isHexDigit_any _ _).mono ?_; rintro e w' ⟨rfl, rfl⟩)
      | (go_at_call 99; refine (isQuotable_any _ _).mono ?_; rintro e w' ⟨rfl, rfl⟩)
      | (go_at_call 81; refine (digit_any _ (by assumption) _).mono ?_; rintro e w' ⟨rfl, rfl⟩))
    go_step3
    exact quoted_lands s at_ N T _ hs (by omega) hR.out
  · have hd1 : isDig (atI (bs s) at_) = true := hd.resolve_right hq
    have hqf : (atI (bs s) at_ == 39) = false := by simpa using hq
    by_cases h0 : atI (bs s) at_ = 48
    · by_cases h1 : atI (bs s) (at_ + 1) = 120
      · have hR := num_hex ((bs s).drop at_) at_ (by rw [r0]; exact h0) (by rw [r1]; exact h1)
        rw [← hN, ← hT, List.drop_drop, atI_drop] at hR
        have hR2 : Res N T at_ (0 + hexLen 8 ((bs s).drop (at_ + 2 + 0)) = 0 ∨ inW (atI (bs s) (at_ + 2 + 0 + hexLen 8 ((bs s).drop (at_ + 2 + 0)))) = true)
            (val 16 0 (((bs s).drop (at_ + 2 + 0)).take (hexLen 8 ((bs s).drop (at_ + 2 + 0))))) (at_ + 2 + 0 + hexLen 8 ((bs s).drop (at_ + 2 + 0))) := by
          refine hR.turn ?_ rfl (by simp only [Nat.add_zero]; omega)
          rw [Nat.zero_add, show at_ + 2 + 0 = at_ + 2 by omega, Nat.add_assoc]
        have hH := Hid.intro hR2
        clear hN hT r0 r1 r2 hd hR hR2 hq hqf hd1
        go_enter Tryd.func80, Tryd.ntmps80
        go_wp2
        refine wp_scope_at (Q := Q28 N T _) Tryd.f80 rfl ?_
        go_wp2_with (first
      | (go_at_call 74; refine (byteAt_int _ _ (by omega) (by omega) (by assumption) _).mono ?_; rintro e w' ⟨rfl, rfl⟩)
      | (go_at_call 79; refine (inWord_any _ _).mono ?_; rintro e w' ⟨rfl, rfl⟩)
      | (go_at_call 77; refine (isDigit_any _ _).mono ?_; rintro e w' ⟨rfl, rfl⟩)
      | (go_at_call 98; refine (isHexDigit_any _ _).mono ?_; rintro e w' ⟨rfl, rfl⟩)
      | (go_at_call 99; refine (isQuotable_any _ _).mono ?_; rintro e w' ⟨rfl, rfl⟩)
      | (go_at_call 81; refine (digit_any _ (by assumption) _).mono ?_; rintro e w' ⟨rfl, rfl⟩))
        go_step3
        exact hex_lands s at_ N T _ hs (by omega) 8 0 _ 0 rfl (by omega) (by omega) (by simp) hH.out
      · have hR := num_zero ((bs s).drop at_) at_ (by rw [r0]; exact h0) (by rw [r1]; exact h1)
        rw [← hN, ← hT, r1] at hR
        have h1f : (atI (bs s) (at_ + 1) == 120) = false := by simpa using h1
        have hH := Hid.intro hR
        clear hN hT r0 r1 r2 hd hR hq hqf hd1 h1
        go_enter Tryd.func80, Tryd.ntmps80
        go_wp2
        refine wp_scope_at (Q := Q28 N T _) Tryd.f80 rfl ?_
        go_wp2_with (first
      | (go_at_call 74; refine (byteAt_int _ _ (by omega) (by omega) (by assumption) _).mono ?_; rintro e w' ⟨rfl, rfl⟩)
      | (go_at_call 79; refine (inWord_any _ _).mono ?_; rintro e w' ⟨rfl, rfl⟩)
      | (go_at_call 77; refine (isDigit_any _ _).mono ?_; rintro e w' ⟨rfl, rfl⟩)
      | (go_at_call 98; refine (isHexDigit_any _ _).mono ?_; rintro e w' ⟨rfl, rfl⟩)
      | (go_at_call 99; refine (isQuotable_any _ _).mono ?_; rintro e w' ⟨rfl, rfl⟩)
      | (go_at_call 81; refine (digit_any _ (by assumption) _).mono ?_; rintro e w' ⟨rfl, rfl⟩))
        go_step3
        exact behind_lands s at_ (at_ + 1) 0 _ N T _ (by omega) (by omega) hs2 (by omega) (by omega) hH.out
    · have hR := num_dec ((bs s).drop at_) at_ (by rw [r0]; exact hq) (by rw [r0]; exact h0)
      rw [← hN, ← hT, atI_drop] at hR
      have h0f : (atI (bs s) at_ == 48) = false := by simpa using h0
      have hx := isHex_of_dig _ hd1
      obtain ⟨d0, d1⟩ := digI_dig _ hd1
      have hhead : isDig (atI ((bs s).drop at_) 0) = true := by rw [r0]; exact hd1
      have hv := take_more isDig isDig_zero ((bs s).drop at_) hhead 10 0
      have hl := (lenW_more isDig isDig_zero ((bs s).drop at_) hhead).1
      rw [List.drop_drop] at hl
      rw [List.drop_drop, r0, show (10 : Int) * 0 + digI (atI (bs s) at_) = digI (atI (bs s) at_) by omega] at hv
      have hR2 : Res N T at_ (4294967295 < val 10 (digI (atI (bs s) at_)) (((bs s).drop (at_ + 1)).take (lenW isDig ((bs s).drop (at_ + 1)))) ∨ inW (atI (bs s) (at_ + 1 + lenW isDig ((bs s).drop (at_ + 1)))) = true)
          (val 10 (digI (atI (bs s) at_)) (((bs s).drop (at_ + 1)).take (lenW isDig ((bs s).drop (at_ + 1))))) (at_ + 1 + lenW isDig ((bs s).drop (at_ + 1))) := by
        refine hR.turn ?_ hv.symm (by rw [hl]; omega)
        rw [hv, hl, show at_ + 1 + lenW isDig (List.drop (at_ + 1) (bs s)) = at_ + (lenW isDig (List.drop (at_ + 1) (bs s)) + 1) by omega]
      obtain ⟨c, hc⟩ : ∃ c, c = atI (bs s) at_ := ⟨_, rfl⟩
      rw [← hc] at hd1 hx d0 d1 hR2 hqf h0f hg
      have hc' := hc.symm
      have hH := Hid.intro hR2
      clear hN hT r0 r1 r2 hd hR hR2 hq h0 hhead hv hl hc
      go_enter Tryd.func80, Tryd.ntmps80
      go_wp2
      refine wp_scope_at (Q := Q28 N T _) Tryd.f80 rfl ?_
      go_wp2_with (first
      | (go_at_call 74; refine (byteAt_int _ _ (by omega) (by omega) (by assumption) _).mono ?_; rintro e w' ⟨rfl, rfl⟩)
      | (go_at_call 79; refine (inWord_any _ _).mono ?_; rintro e w' ⟨rfl, rfl⟩)
      | (go_at_call 77; refine (isDigit_any _ _).mono ?_; rintro e w' ⟨rfl, rfl⟩)
      | (go_at_call 98; refine (isHexDigit_any _ _).mono ?_; rintro e w' ⟨rfl, rfl⟩)
      | (go_at_call 99; refine (isQuotable_any _ _).mono ?_; rintro e w' ⟨rfl, rfl⟩)
      | (go_at_call 81; refine (digit_any _ (by assumption) _).mono ?_; rintro e w' ⟨rfl, rfl⟩))
      go_step3
      go_wp2_with (first
      | (go_at_call 74; refine (byteAt_int _ _ (by omega) (by omega) (by assumption) _).mono ?_; rintro e w' ⟨rfl, rfl⟩)
      | (go_at_call 79; refine (inWord_any _ _).mono ?_; rintro e w' ⟨rfl, rfl⟩)
      | (go_at_call 77; refine (isDigit_any _ _).mono ?_; rintro e w' ⟨rfl, rfl⟩)
      | (go_at_call 98; refine (isHexDigit_any _ _).mono ?_; rintro e w' ⟨rfl, rfl⟩)
      | (go_at_call 99; refine (isQuotable_any _ _).mono ?_; rintro e w' ⟨rfl, rfl⟩)
      | (go_at_call 81; refine (digit_any _ (by assumption) _).mono ?_; rintro e w' ⟨rfl, rfl⟩))
      go_step3
      exact dec_lands s at_ N T _ hs _ (at_ + 1) _ _ (by omega) (by omega) rfl (by omega) (by omega) hH.out
end Go.Proofs.YtijdjljnppkhmaaDoor
