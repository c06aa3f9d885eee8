/- lex.numberAt: digits of 0 to f, and one byte between quotes; the contract. -/
import Derived.Test.YtijdjljnppkhmaaDoorNum
namespace Go.Proofs.YtijdjljnppkhmaaDoor
open Go.ChangeShapes Go.WideShapes Go.ChangeAt Go.RowKit
set_option linter.unusedVariables false
set_option maxRecDepth 100000

theorem hex_lands (s : ByteArray) (at_ : Nat) (N T : Int) (w : World) (hs : s.size ≤ 4611686018427387800) (ha : at_ ≤ s.size) :
    ∀ (j i : Nat) (to_ n : Int), i + j = 8 → to_ = ((at_ + 2 + i : Nat) : Int) → 0 ≤ n → n < 16 ^ i →
    Res N T at_ (i + hexLen j ((bs s).drop (at_ + 2 + i)) = 0 ∨ inW (atI (bs s) (at_ + 2 + i + hexLen j ((bs s).drop (at_ + 2 + i)))) = true)
      (val 16 n (((bs s).drop (at_ + 2 + i)).take (hexLen j ((bs s).drop (at_ + 2 + i))))) (at_ + 2 + i + hexLen j ((bs s).drop (at_ + 2 + i))) →
    ∀ {u2 u3 u4 u5 u8 u9 u10 u11 u12 u13 u14 u15 u16 u17 u18 u19 u20 u21 u22 u23 u24 u25 u26 u27 u28 u29 u30 u31 u32 u33 u34 u35 u36 u37 u38 u39 u40 u41 u42 u43 u44 u45 u46 u47 u48 u49 u50 u51 u52 u53 u54 u55 u56 u57 u58 u59 u60 u61 u62 u63 u64 u65 u66 u67 u68 u69 u70 u71 u72 u73 u74 u75 u76 u77 u78 u79 u80 u81 u82 u83 u84 u85 u86 u87 u88 u89 u90 u91 u92 u93 u94 u95 u96 u97 u98 u99 : Value}, Lands Tryd.prog (scopeOf Tryd.f80) (Q28 N T w) 1 { tmps := List.toArray (.string s :: .int .i64 (at_ : Int) :: u2 :: u3 :: u4 :: u5 :: .int .u64 n :: .int .i64 to_ :: u8 :: u9 :: u10 :: u11 :: u12 :: u13 :: u14 :: u15 :: u16 :: u17 :: u18 :: u19 :: u20 :: u21 :: u22 :: u23 :: u24 :: u25 :: u26 :: u27 :: u28 :: u29 :: u30 :: u31 :: u32 :: u33 :: u34 :: u35 :: u36 :: u37 :: u38 :: u39 :: u40 :: u41 :: u42 :: u43 :: u44 :: u45 :: u46 :: u47 :: u48 :: u49 :: u50 :: u51 :: u52 :: u53 :: u54 :: u55 :: u56 :: u57 :: u58 :: u59 :: u60 :: u61 :: u62 :: u63 :: u64 :: u65 :: u66 :: u67 :: u68 :: u69 :: u70 :: u71 :: u72 :: u73 :: u74 :: u75 :: u76 :: u77 :: u78 :: u79 :: u80 :: u81 :: u82 :: u83 :: u84 :: u85 :: u86 :: u87 :: u88 :: u89 :: u90 :: u91 :: u92 :: u93 :: u94 :: u95 :: u96 :: u97 :: u98 :: u99 :: []), defers := [] } w := by
  intro j
  induction j with
  | zero =>
    intro i to_ n hi hk n0 n1 hR
    intros
    have htn : to_.toNat = at_ + 2 + i := by omega
    have hs2 : s.size ≤ 4611686018427387904 := by omega
    have h0 : 0 ≤ to_ := by omega
    have h1 : to_ ≤ 4611686018427387850 := by omega
    have hn2 := hex_small i n (by omega) n1
    have e0 : hexLen 0 ((bs s).drop (at_ + 2 + i)) = 0 := hexLen_stop _ _ (Or.inr rfl)
    rw [e0, List.take_zero, val_nil, Nat.add_zero, Nat.add_zero, ← htn] at hR
    have hlt : decide (to_ - (at_ : Int) < 10) = false := by simp; omega
    clear n1 e0
    cases hx : isHex (atI (bs s) to_.toNat)
    all_goals
      by_cases hi0 : i = 0
      · have he : (to_ - (at_ : Int) == 2) = true := by simp; omega
        obtain ⟨hN, hT⟩ := hR.bad (Or.inl hi0)
        clear hR hk htn
        refine Lands.of rfl ?_
        go_wp2_with (first
          | (go_at_call 74; refine (byteAt_int _ _ (by omega) (by omega) (by assumption) _).mono ?_; rintro e w' ⟨rfl, rfl⟩)
          | (go_at_call 79; refine (inWord_any _ _).mono ?_; rintro e w' ⟨rfl, rfl⟩)
          | (go_at_call 77; refine (isDigit_any _ _).mono ?_; rintro e w' ⟨rfl, rfl⟩)
          | (go_at_call 98; refine (isHexDigit_any _ _).mono ?_; rintro e w' ⟨rfl, rfl⟩)
          | (go_at_call 99; refine (isQuotable_any _ _).mono ?_; rintro e w' ⟨rfl, rfl⟩)
          | (go_at_call 81; refine (digit_any _ (by assumption) _).mono ?_; rintro e w' ⟨rfl, rfl⟩))
        go_step3
        exact none_lands s at_ _ _ _ hN hT
      · have he : (to_ - (at_ : Int) == 2) = false := by simp; omega
        have hR2 := hR.turn (bad' := inW (atI (bs s) to_.toNat) = true) ⟨fun h => Or.inr h, fun h => h.resolve_left hi0⟩ rfl rfl
        cases hin : inW (atI (bs s) to_.toNat)
        · obtain ⟨hN, hT0⟩ := hR2.good (by rw [hin]; simp)
          have hT : T = to_ := by omega
          clear hR hR2 hk htn hT0
          subst hN hT
          refine Lands.of rfl ?_
          go_wp2_with (first
          | (go_at_call 74; refine (byteAt_int _ _ (by omega) (by omega) (by assumption) _).mono ?_; rintro e w' ⟨rfl, rfl⟩)
          | (go_at_call 79; refine (inWord_any _ _).mono ?_; rintro e w' ⟨rfl, rfl⟩)
          | (go_at_call 77; refine (isDigit_any _ _).mono ?_; rintro e w' ⟨rfl, rfl⟩)
          | (go_at_call 98; refine (isHexDigit_any _ _).mono ?_; rintro e w' ⟨rfl, rfl⟩)
          | (go_at_call 99; refine (isQuotable_any _ _).mono ?_; rintro e w' ⟨rfl, rfl⟩)
          | (go_at_call 81; refine (digit_any _ (by assumption) _).mono ?_; rintro e w' ⟨rfl, rfl⟩))
          go_step3
          go_wp2_with (first
          | (go_at_call 74; refine (byteAt_int _ _ (by omega) (by omega) (by assumption) _).mono ?_; rintro e w' ⟨rfl, rfl⟩)
          | (go_at_call 79; refine (inWord_any _ _).mono ?_; rintro e w' ⟨rfl, rfl⟩)
          | (go_at_call 77; refine (isDigit_any _ _).mono ?_; rintro e w' ⟨rfl, rfl⟩)
          | (go_at_call 98; refine (isHexDigit_any _ _).mono ?_; rintro e w' ⟨rfl, rfl⟩)
          | (go_at_call 99; refine (isQuotable_any _ _).mono ?_; rintro e w' ⟨rfl, rfl⟩)
          | (go_at_call 81; refine (digit_any _ (by assumption) _).mono ?_; rintro e w' ⟨rfl, rfl⟩))
          rw [jumps_ret]
          unfold Q28
          go_ret2
          exact ⟨rfl, rfl⟩
        · obtain ⟨hN, hT⟩ := hR2.bad hin
          clear hR hR2 hk htn
          refine Lands.of rfl ?_
          go_wp2_with (first
          | (go_at_call 74; refine (byteAt_int _ _ (by omega) (by omega) (by assumption) _).mono ?_; rintro e w' ⟨rfl, rfl⟩)
          | (go_at_call 79; refine (inWord_any _ _).mono ?_; rintro e w' ⟨rfl, rfl⟩)
          | (go_at_call 77; refine (isDigit_any _ _).mono ?_; rintro e w' ⟨rfl, rfl⟩)
          | (go_at_call 98; refine (isHexDigit_any _ _).mono ?_; rintro e w' ⟨rfl, rfl⟩)
          | (go_at_call 99; refine (isQuotable_any _ _).mono ?_; rintro e w' ⟨rfl, rfl⟩)
          | (go_at_call 81; refine (digit_any _ (by assumption) _).mono ?_; rintro e w' ⟨rfl, rfl⟩))
          go_step3
          go_wp2_with (first
          | (go_at_call 74; refine (byteAt_int _ _ (by omega) (by omega) (by assumption) _).mono ?_; rintro e w' ⟨rfl, rfl⟩)
          | (go_at_call 79; refine (inWord_any _ _).mono ?_; rintro e w' ⟨rfl, rfl⟩)
          | (go_at_call 77; refine (isDigit_any _ _).mono ?_; rintro e w' ⟨rfl, rfl⟩)
          | (go_at_call 98; refine (isHexDigit_any _ _).mono ?_; rintro e w' ⟨rfl, rfl⟩)
          | (go_at_call 99; refine (isQuotable_any _ _).mono ?_; rintro e w' ⟨rfl, rfl⟩)
          | (go_at_call 81; refine (digit_any _ (by assumption) _).mono ?_; rintro e w' ⟨rfl, rfl⟩))
          go_step3
          exact none_lands s at_ _ _ _ hN hT

  | succ j ih =>
    intro i to_ n hi hk n0 n1 hR
    intros
    have htn : to_.toNat = at_ + 2 + i := by omega
    have hs2 : s.size ≤ 4611686018427387904 := by omega
    have h0 : 0 ≤ to_ := by omega
    have h1 : to_ ≤ 4611686018427387850 := by omega
    have hlt : decide (to_ - (at_ : Int) < 10) = true := by simp; omega
    cases hx : isHex (atI (bs s) to_.toNat)
    · have hn2 := hex_small i n (by omega) n1
      have e0 : hexLen (j + 1) ((bs s).drop (at_ + 2 + i)) = 0 := hexLen_stop _ _ (Or.inl (by rw [atI_drop, Nat.add_zero, ← htn]; exact hx))
      rw [e0, List.take_zero, val_nil, Nat.add_zero, Nat.add_zero, ← htn] at hR
      clear n1 e0 ih
      by_cases hi0 : i = 0
      · have he : (to_ - (at_ : Int) == 2) = true := by simp; omega
        obtain ⟨hN, hT⟩ := hR.bad (Or.inl hi0)
        clear hR hk htn
        refine Lands.of rfl ?_
        go_wp2_with (first
          | (go_at_call 74; refine (byteAt_int _ _ (by omega) (by omega) (by assumption) _).mono ?_; rintro e w' ⟨rfl, rfl⟩)
          | (go_at_call 79; refine (inWord_any _ _).mono ?_; rintro e w' ⟨rfl, rfl⟩)
          | (go_at_call 77; refine (isDigit_any _ _).mono ?_; rintro e w' ⟨rfl, rfl⟩)
          | (go_at_call 98; refine (isHexDigit_any _ _).mono ?_; rintro e w' ⟨rfl, rfl⟩)
          | (go_at_call 99; refine (isQuotable_any _ _).mono ?_; rintro e w' ⟨rfl, rfl⟩)
          | (go_at_call 81; refine (digit_any _ (by assumption) _).mono ?_; rintro e w' ⟨rfl, rfl⟩))
        go_step3
        exact none_lands s at_ _ _ _ hN hT
      · have he : (to_ - (at_ : Int) == 2) = false := by simp; omega
        have hR2 := hR.turn (bad' := inW (atI (bs s) to_.toNat) = true) ⟨fun h => Or.inr h, fun h => h.resolve_left hi0⟩ rfl rfl
        cases hin : inW (atI (bs s) to_.toNat)
        · obtain ⟨hN, hT0⟩ := hR2.good (by rw [hin]; simp)
          have hT : T = to_ := by omega
          clear hR hR2 hk htn hT0
          subst hN hT
          refine Lands.of rfl ?_
          go_wp2_with (first
          | (go_at_call 74; refine (byteAt_int _ _ (by omega) (by omega) (by assumption) _).mono ?_; rintro e w' ⟨rfl, rfl⟩)
          | (go_at_call 79; refine (inWord_any _ _).mono ?_; rintro e w' ⟨rfl, rfl⟩)
          | (go_at_call 77; refine (isDigit_any _ _).mono ?_; rintro e w' ⟨rfl, rfl⟩)
          | (go_at_call 98; refine (isHexDigit_any _ _).mono ?_; rintro e w' ⟨rfl, rfl⟩)
          | (go_at_call 99; refine (isQuotable_any _ _).mono ?_; rintro e w' ⟨rfl, rfl⟩)
          | (go_at_call 81; refine (digit_any _ (by assumption) _).mono ?_; rintro e w' ⟨rfl, rfl⟩))
          go_step3
          go_wp2_with (first
          | (go_at_call 74; refine (byteAt_int _ _ (by omega) (by omega) (by assumption) _).mono ?_; rintro e w' ⟨rfl, rfl⟩)
          | (go_at_call 79; refine (inWord_any _ _).mono ?_; rintro e w' ⟨rfl, rfl⟩)
          | (go_at_call 77; refine (isDigit_any _ _).mono ?_; rintro e w' ⟨rfl, rfl⟩)
          | (go_at_call 98; refine (isHexDigit_any _ _).mono ?_; rintro e w' ⟨rfl, rfl⟩)
          | (go_at_call 99; refine (isQuotable_any _ _).mono ?_; rintro e w' ⟨rfl, rfl⟩)
          | (go_at_call 81; refine (digit_any _ (by assumption) _).mono ?_; rintro e w' ⟨rfl, rfl⟩))
          rw [jumps_ret]
          unfold Q28
          go_ret2
          exact ⟨rfl, rfl⟩
        · obtain ⟨hN, hT⟩ := hR2.bad hin
          clear hR hR2 hk htn
          refine Lands.of rfl ?_
          go_wp2_with (first
          | (go_at_call 74; refine (byteAt_int _ _ (by omega) (by omega) (by assumption) _).mono ?_; rintro e w' ⟨rfl, rfl⟩)
          | (go_at_call 79; refine (inWord_any _ _).mono ?_; rintro e w' ⟨rfl, rfl⟩)
          | (go_at_call 77; refine (isDigit_any _ _).mono ?_; rintro e w' ⟨rfl, rfl⟩)
          | (go_at_call 98; refine (isHexDigit_any _ _).mono ?_; rintro e w' ⟨rfl, rfl⟩)
          | (go_at_call 99; refine (isQuotable_any _ _).mono ?_; rintro e w' ⟨rfl, rfl⟩)
          | (go_at_call 81; refine (digit_any _ (by assumption) _).mono ?_; rintro e w' ⟨rfl, rfl⟩))
          go_step3
          go_wp2_with (first
          | (go_at_call 74; refine (byteAt_int _ _ (by omega) (by omega) (by assumption) _).mono ?_; rintro e w' ⟨rfl, rfl⟩)
          | (go_at_call 79; refine (inWord_any _ _).mono ?_; rintro e w' ⟨rfl, rfl⟩)
          | (go_at_call 77; refine (isDigit_any _ _).mono ?_; rintro e w' ⟨rfl, rfl⟩)
          | (go_at_call 98; refine (isHexDigit_any _ _).mono ?_; rintro e w' ⟨rfl, rfl⟩)
          | (go_at_call 99; refine (isQuotable_any _ _).mono ?_; rintro e w' ⟨rfl, rfl⟩)
          | (go_at_call 81; refine (digit_any _ (by assumption) _).mono ?_; rintro e w' ⟨rfl, rfl⟩))
          go_step3
          exact none_lands s at_ _ _ _ hN hT

    · have hhead : isHex (atI ((bs s).drop (at_ + 2 + i)) 0) = true := by rw [atI_drop, Nat.add_zero, ← htn]; exact hx
      obtain ⟨d0, d1⟩ := digI_lo _ hx
      have hv := hexTake_more j _ hhead n
      have hl := hexLen_more j _ hhead
      rw [atI_drop, List.drop_drop] at hv
      rw [List.drop_drop] at hl
      rw [hv, hl] at hR
      simp only [Nat.add_zero] at hR
      obtain ⟨q0, q1, q2⟩ := hex_step i n (digI (atI (bs s) to_.toNat)) (by omega) n0 n1 d0 d1
      have hn2 := hex_small i n (by omega) n1
      have hR2 : Res N T at_ (i + 1 + hexLen j ((bs s).drop (at_ + 2 + (i + 1))) = 0 ∨ inW (atI (bs s) (at_ + 2 + (i + 1) + hexLen j ((bs s).drop (at_ + 2 + (i + 1))))) = true)
          (val 16 (16 * n + digI (atI (bs s) to_.toNat)) (((bs s).drop (at_ + 2 + (i + 1))).take (hexLen j ((bs s).drop (at_ + 2 + (i + 1)))))) (at_ + 2 + (i + 1) + hexLen j ((bs s).drop (at_ + 2 + (i + 1)))) := by
        rw [htn]
        refine hR.turn ?_ ?_ ?_
        · rw [show at_ + 2 + (i + 1) = at_ + 2 + i + 1 by omega, show at_ + 2 + i + (hexLen j (List.drop (at_ + 2 + i + 1) (bs s)) + 1) = at_ + 2 + i + 1 + hexLen j (List.drop (at_ + 2 + i + 1) (bs s)) by omega]
          refine or_congr ?_ Iff.rfl
          omega
        · rw [show at_ + 2 + (i + 1) = at_ + 2 + i + 1 by omega]
        · rw [show at_ + 2 + (i + 1) = at_ + 2 + i + 1 by omega]; omega
      obtain ⟨c, hc⟩ : ∃ c, c = atI (bs s) to_.toNat := ⟨_, rfl⟩
      rw [← hc] at hx d0 d1 q0 q1 q2 hR2
      have hc' := hc.symm
      have hH := Hid.intro hR2
      have hH2 := Hid.intro hk
      have hH3 := Hid.intro q1
      clear hR hR2 hv hl hhead hc n1 q1 hk htn
      refine Lands.of rfl ?_
      go_wp2_with (first
      | (go_at_call 74; refine (byteAt_int _ _ (by omega) (by omega) (by assumption) _).mono ?_; rintro e w' ⟨rfl, rfl⟩)
      | (go_at_call 79; refine (inWord_any _ _).mono ?_; rintro e w' ⟨rfl, rfl⟩)
      | (go_at_call 77; refine (isDigit_any _ _).mono ?_; rintro e w' ⟨rfl, rfl⟩)
      | (go_at_call 98; refine (isHexDigit_any _ _).mono ?_; rintro e w' ⟨rfl, rfl⟩)
      | (go_at_call 99; refine (isQuotable_any _ _).mono ?_; rintro e w' ⟨rfl, rfl⟩)
      | (go_at_call 81; refine (digit_any _ (by assumption) _).mono ?_; rintro e w' ⟨rfl, rfl⟩))
      go_step3
      have hk := hH2.out
      exact ih (i + 1) _ _ (by omega) (by omega) q0 hH3.out hH.out

theorem quoted_lands (s : ByteArray) (at_ : Nat) (N T : Int) (w : World) (hs : s.size ≤ 4611686018427387800) (ha : at_ ≤ s.size)
    (hR : Res N T at_ (¬ (isQuo (atI (bs s) (at_ + 1)) = true ∧ atI (bs s) (at_ + 2) = 39)) (atI (bs s) (at_ + 1)) (at_ + 3)) {u2 u3 u4 u5 u6 u7 u8 u9 u10 u11 u12 u13 u14 u15 u16 u17 u18 u19 u20 u21 u22 u23 u24 u25 u26 u27 u28 u29 u30 u31 u32 u33 u34 u35 u36 u37 u38 u39 u40 u41 u42 u43 u44 u45 u46 u47 u48 u49 u50 u51 u52 u53 u54 u55 u56 u57 u58 u59 u60 u61 u62 u63 u64 u65 u66 u67 u68 u69 u70 u71 u72 u73 u74 u75 u76 u77 u78 u79 u80 u81 u82 u83 u84 u85 u86 u87 u88 u89 u90 u91 u92 u93 u94 u95 u96 u97 u98 u99 : Value} :
    Lands Tryd.prog (scopeOf Tryd.f80) (Q28 N T w) 0 { tmps := List.toArray (.string s :: .int .i64 (at_ : Int) :: u2 :: u3 :: u4 :: u5 :: u6 :: u7 :: u8 :: u9 :: u10 :: u11 :: u12 :: u13 :: u14 :: u15 :: u16 :: u17 :: u18 :: u19 :: u20 :: u21 :: u22 :: u23 :: u24 :: u25 :: u26 :: u27 :: u28 :: u29 :: u30 :: u31 :: u32 :: u33 :: u34 :: u35 :: u36 :: u37 :: u38 :: u39 :: u40 :: u41 :: u42 :: u43 :: u44 :: u45 :: u46 :: u47 :: u48 :: u49 :: u50 :: u51 :: u52 :: u53 :: u54 :: u55 :: u56 :: u57 :: u58 :: u59 :: u60 :: u61 :: u62 :: u63 :: u64 :: u65 :: u66 :: u67 :: u68 :: u69 :: u70 :: u71 :: u72 :: u73 :: u74 :: u75 :: u76 :: u77 :: u78 :: u79 :: u80 :: u81 :: u82 :: u83 :: u84 :: u85 :: u86 :: u87 :: u88 :: u89 :: u90 :: u91 :: u92 :: u93 :: u94 :: u95 :: u96 :: u97 :: u98 :: u99 :: []), defers := [] } w := by
  have e1 : ((at_ : Int) + 1).toNat = at_ + 1 := by omega
  have e2 : ((at_ : Int) + 2).toNat = at_ + 2 := by omega
  have hs2 : s.size ≤ 4611686018427387904 := by omega
  cases hq : isQuo (atI (bs s) (at_ + 1))
  · obtain ⟨hN, hT⟩ := hR.bad (by rw [hq]; simp)
    clear hR
    subst hN hT
    refine Lands.of rfl ?_
    go_wp2_with (first
      | (go_at_call 74; refine (byteAt_int _ _ (by omega) (by omega) (by assumption) _).mono ?_; rintro e w' ⟨rfl, rfl⟩)
      | (go_at_call 79; refine (inWord_any _ _).mono ?_; rintro e w' ⟨rfl, rfl⟩)
      | (go_at_call 77; refine (isDigit_any _ _).mono ?_; rintro e w' ⟨rfl, rfl⟩)
      | (go_at_call 98; refine (isHexDigit_any _ _).mono ?_; rintro e w' ⟨rfl, rfl⟩)
      | (go_at_call 99; refine (isQuotable_any _ _).mono ?_; rintro e w' ⟨rfl, rfl⟩)
      | (go_at_call 81; refine (digit_any _ (by assumption) _).mono ?_; rintro e w' ⟨rfl, rfl⟩))
    go_step3
    go_wp2
    rw [jumps_ret]
    unfold Q28
    go_ret2
    exact ⟨rfl, rfl⟩
  · by_cases h2 : atI (bs s) (at_ + 2) = 39
    · obtain ⟨hN, hT⟩ := hR.good (by simp [hq, h2])
      have hlt : at_ + 1 < s.size := by
        apply Decidable.byContradiction
        intro hn
        rw [atI_out (bs s) (at_ + 2) (by rw [bs_length]; omega)] at h2
        omega
      have hg := atI_get s (at_ + 1) hlt
      clear hR
      have hT' : T = (at_ : Int) + 3 := by omega
      subst hN hT'
      clear hT
      have hgi : ((s[((at_ : Int) + 1).toNat]'(by omega)).toNat : Int) = atI (bs s) (at_ + 1) := by rw [← hg]; congr 2
      have hb0 := atI_lo (bs s) (at_ + 1)
      have hb1 := atI_hi (bs s) (at_ + 1)
      refine Lands.of rfl ?_
      go_wp2_with (first
      | (go_at_call 74; refine (byteAt_int _ _ (by omega) (by omega) (by assumption) _).mono ?_; rintro e w' ⟨rfl, rfl⟩)
      | (go_at_call 79; refine (inWord_any _ _).mono ?_; rintro e w' ⟨rfl, rfl⟩)
      | (go_at_call 77; refine (isDigit_any _ _).mono ?_; rintro e w' ⟨rfl, rfl⟩)
      | (go_at_call 98; refine (isHexDigit_any _ _).mono ?_; rintro e w' ⟨rfl, rfl⟩)
      | (go_at_call 99; refine (isQuotable_any _ _).mono ?_; rintro e w' ⟨rfl, rfl⟩)
      | (go_at_call 81; refine (digit_any _ (by assumption) _).mono ?_; rintro e w' ⟨rfl, rfl⟩))
      rw [jumps_ret]
      unfold Q28
      go_ret2
      exact ⟨by first | rfl | (simp only [hg]) | (simp only [hgi]), rfl⟩
    · obtain ⟨hN, hT⟩ := hR.bad (by simp [h2])
      have h2' : (atI (bs s) (at_ + 2) == 39) = false := by simpa using h2
      clear hR h2
      subst hN hT
      refine Lands.of rfl ?_
      go_wp2_with (first
      | (go_at_call 74; refine (byteAt_int _ _ (by omega) (by omega) (by assumption) _).mono ?_; rintro e w' ⟨rfl, rfl⟩)
      | (go_at_call 79; refine (inWord_any _ _).mono ?_; rintro e w' ⟨rfl, rfl⟩)
      | (go_at_call 77; refine (isDigit_any _ _).mono ?_; rintro e w' ⟨rfl, rfl⟩)
      | (go_at_call 98; refine (isHexDigit_any _ _).mono ?_; rintro e w' ⟨rfl, rfl⟩)
      | (go_at_call 99; refine (isQuotable_any _ _).mono ?_; rintro e w' ⟨rfl, rfl⟩)
      | (go_at_call 81; refine (digit_any _ (by assumption) _).mono ?_; rintro e w' ⟨rfl, rfl⟩))
      go_step3
      go_wp2
      rw [jumps_ret]
      unfold Q28
      go_ret2
      exact ⟨rfl, rfl⟩
end Go.Proofs.YtijdjljnppkhmaaDoor
