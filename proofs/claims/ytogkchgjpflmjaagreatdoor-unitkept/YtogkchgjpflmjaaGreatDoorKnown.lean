/- The tokens in memory, as a reader meets them; few. -/
import Derived.Test.YtogkchgjpflmjaaGreatDoorNum
import Derived.Deep.DeepAppendWide
import Derived.Deep.DeepMust
import Derived.Laws.Strings3
/- lex.numberAt: digits of 0 to f, and one byte between quotes; the contract. -/
namespace Go.Proofs.YtogkchgjpflmjaaGreatDoor
open Go.ChangeShapes Go.WideShapes Go.ChangeAt Go.RowKit
set_option linter.unusedVariables false
set_option maxRecDepth 100000
theorem hex_lands (s : ByteArray) (at_ : Nat) (N T : Int) (w : World) (hs : s.size ≤ 4611686018427387800) (ha : at_ ≤ s.size) :
    ∀ (j i : Nat) (to_ n : Int), i + j = 8 → to_ = ((at_ + 2 + i : Nat) : Int) → 0 ≤ n → n < 16 ^ i →
    Res N T at_ (i + hexLen j ((bs s).drop (at_ + 2 + i)) = 0 ∨ inW (atI (bs s) (at_ + 2 + i + hexLen j ((bs s).drop (at_ + 2 + i)))) = true)
      (val 16 n (((bs s).drop (at_ + 2 + i)).take (hexLen j ((bs s).drop (at_ + 2 + i))))) (at_ + 2 + i + hexLen j ((bs s).drop (at_ + 2 + i))) →
    ∀ {u2 u3 u4 u5 u8 u9 u10 u11 u12 u13 u14 u15 u16 u17 u18 u19 u20 u21 u22 u23 u24 u25 u26 u27 u28 u29 u30 u31 u32 u33 u34 u35 u36 u37 u38 u39 u40 u41 u42 u43 u44 u45 u46 u47 u48 u49 u50 u51 u52 u53 u54 u55 u56 u57 u58 u59 u60 u61 u62 u63 u64 u65 u66 u67 u68 u69 u70 u71 u72 u73 u74 u75 u76 u77 u78 u79 u80 u81 u82 u83 u84 u85 u86 u87 u88 u89 u90 u91 u92 u93 u94 u95 u96 u97 u98 u99 : Value}, Lands Tryz.prog (scopeOf Tryz.f129) (Q28 N T w) 1 { tmps := List.toArray (.string s :: .int .i64 (at_ : Int) :: u2 :: u3 :: u4 :: u5 :: .int .u64 n :: .int .i64 to_ :: u8 :: u9 :: u10 :: u11 :: u12 :: u13 :: u14 :: u15 :: u16 :: u17 :: u18 :: u19 :: u20 :: u21 :: u22 :: u23 :: u24 :: u25 :: u26 :: u27 :: u28 :: u29 :: u30 :: u31 :: u32 :: u33 :: u34 :: u35 :: u36 :: u37 :: u38 :: u39 :: u40 :: u41 :: u42 :: u43 :: u44 :: u45 :: u46 :: u47 :: u48 :: u49 :: u50 :: u51 :: u52 :: u53 :: u54 :: u55 :: u56 :: u57 :: u58 :: u59 :: u60 :: u61 :: u62 :: u63 :: u64 :: u65 :: u66 :: u67 :: u68 :: u69 :: u70 :: u71 :: u72 :: u73 :: u74 :: u75 :: u76 :: u77 :: u78 :: u79 :: u80 :: u81 :: u82 :: u83 :: u84 :: u85 :: u86 :: u87 :: u88 :: u89 :: u90 :: u91 :: u92 :: u93 :: u94 :: u95 :: u96 :: u97 :: u98 :: u99 :: []), defers := [] } w := by
  intro j
  induction j with
  | zero =>
    intro i to_ n hi hk n0 n1 hR
    intros
    have htn : to_.toNat = at_ + 2 + i := by omega
    have hs2 : s.size ≤ 4611686018427387904 := by omega
    have h0 : 0 ≤ to_ := by omega
    have h1 : to_ ≤ 4611686018427387850 := by omega
    have hn2 := hex_small i n (by omega) n1
    have e0 : hexLen 0 ((bs s).drop (at_ + 2 + i)) = 0 := hexLen_stop _ _ (Or.inr rfl)
    rw [e0, List.take_zero, val_nil, Nat.add_zero, Nat.add_zero, ← htn] at hR
    have hlt : decide (to_ - (at_ : Int) < 10) = false := by simp; omega
    clear n1 e0
    cases hx : isHex (atI (bs s) to_.toNat)
    all_goals
      by_cases hi0 : i = 0
      · have he : (to_ - (at_ : Int) == 2) = true := by simp; omega
        obtain ⟨hN, hT⟩ := hR.bad (Or.inl hi0)
        clear hR hk htn
        refine Lands.of rfl ?_
        go_wp2_with (first
          | (go_at_call 123; refine (byteAt_int _ _ (by omega) (by omega) (by assumption) _).mono ?_; rintro e w' ⟨rfl, rfl⟩)
          | (go_at_call 128; refine (inWord_any _ _).mono ?_; rintro e w' ⟨rfl, rfl⟩)
          | (go_at_call 126; refine (isDigit_any _ _).mono ?_; rintro e w' ⟨rfl, rfl⟩)
          | (go_at_call 158; refine (isHexDigit_any _ _).mono ?_; rintro e w' ⟨rfl, rfl⟩)
          | (go_at_call 159; refine (isQuotable_any _ _).mono ?_; rintro e w' ⟨rfl, rfl⟩)
          | (go_at_call 131; refine (digit_any _ (by assumption) _).mono ?_; rintro e w' ⟨rfl, rfl⟩))
        go_step3
        exact none_lands s at_ _ _ _ hN hT
      · have he : (to_ - (at_ : Int) == 2) = false := by simp; omega
        have hR2 := hR.turn (bad' := inW (atI (bs s) to_.toNat) = true) ⟨fun h => Or.inr h, fun h => h.resolve_left hi0⟩ rfl rfl
        cases hin : inW (atI (bs s) to_.toNat)
        · obtain ⟨hN, hT0⟩ := hR2.good (by rw [hin]; simp)
          have hT : T = to_ := by omega
          clear hR hR2 hk htn hT0
          subst hN hT
          refine Lands.of rfl ?_
          go_wp2_with (first
          | (go_at_call 123; refine (byteAt_int _ _ (by omega) (by omega) (by assumption) _).mono ?_; rintro e w' ⟨rfl, rfl⟩)
          | (go_at_call 128; refine (inWord_any _ _).mono ?_; rintro e w' ⟨rfl, rfl⟩)
          | (go_at_call 126; refine (isDigit_any _ _).mono ?_; rintro e w' ⟨rfl, rfl⟩)
          | (go_at_call 158; refine (isHexDigit_any _ _).mono ?_; rintro e w' ⟨rfl, rfl⟩)
          | (go_at_call 159; refine (isQuotable_any _ _).mono ?_; rintro e w' ⟨rfl, rfl⟩)
          | (go_at_call 131; refine (digit_any _ (by assumption) _).mono ?_; rintro e w' ⟨rfl, rfl⟩))
          go_step3
          go_wp2_with (first
          | (go_at_call 123; refine (byteAt_int _ _ (by omega) (by omega) (by assumption) _).mono ?_; rintro e w' ⟨rfl, rfl⟩)
          | (go_at_call 128; refine (inWord_any _ _).mono ?_; rintro e w' ⟨rfl, rfl⟩)
          | (go_at_call 126; refine (isDigit_any _ _).mono ?_; rintro e w' ⟨rfl, rfl⟩)
          | (go_at_call 158; refine (isHexDigit_any _ _).mono ?_; rintro e w' ⟨rfl, rfl⟩)
          | (go_at_call 159; refine (isQuotable_any _ _).mono ?_; rintro e w' ⟨rfl, rfl⟩)
          | (go_at_call 131; refine (digit_any _ (by assumption) _).mono ?_; rintro e w' ⟨rfl, rfl⟩))
          rw [jumps_ret]
          unfold Q28
          go_ret2
          exact ⟨rfl, rfl⟩
        · obtain ⟨hN, hT⟩ := hR2.bad hin
          clear hR hR2 hk htn
          refine Lands.of rfl ?_
          go_wp2_with (first
          | (go_at_call 123; refine (byteAt_int _ _ (by omega) (by omega) (by assumption) _).mono ?_; rintro e w' ⟨rfl, rfl⟩)
          | (go_at_call 128; refine (inWord_any _ _).mono ?_; rintro e w' ⟨rfl, rfl⟩)
          | (go_at_call 126; refine (isDigit_any _ _).mono ?_; rintro e w' ⟨rfl, rfl⟩)
          | (go_at_call 158; refine (isHexDigit_any _ _).mono ?_; rintro e w' ⟨rfl, rfl⟩)
          | (go_at_call 159; refine (isQuotable_any _ _).mono ?_; rintro e w' ⟨rfl, rfl⟩)
          | (go_at_call 131; refine (digit_any _ (by assumption) _).mono ?_; rintro e w' ⟨rfl, rfl⟩))
          go_step3
          go_wp2_with (first
          | (go_at_call 123; refine (byteAt_int _ _ (by omega) (by omega) (by assumption) _).mono ?_; rintro e w' ⟨rfl, rfl⟩)
          | (go_at_call 128; refine (inWord_any _ _).mono ?_; rintro e w' ⟨rfl, rfl⟩)
          | (go_at_call 126; refine (isDigit_any _ _).mono ?_; rintro e w' ⟨rfl, rfl⟩)
          | (go_at_call 158; refine (isHexDigit_any _ _).mono ?_; rintro e w' ⟨rfl, rfl⟩)
          | (go_at_call 159; refine (isQuotable_any _ _).mono ?_; rintro e w' ⟨rfl, rfl⟩)
          | (go_at_call 131; refine (digit_any _ (by assumption) _).mono ?_; rintro e w' ⟨rfl, rfl⟩))
          go_step3
          exact none_lands s at_ _ _ _ hN hT
  | succ j ih =>
    intro i to_ n hi hk n0 n1 hR
    intros
    have htn : to_.toNat = at_ + 2 + i := by omega
    have hs2 : s.size ≤ 4611686018427387904 := by omega
    have h0 : 0 ≤ to_ := by omega
    have h1 : to_ ≤ 4611686018427387850 := by omega
    have hlt : decide (to_ - (at_ : Int) < 10) = true := by simp; omega
    cases hx : isHex (atI (bs s) to_.toNat)
    · have hn2 := hex_small i n (by omega) n1
      have e0 : hexLen (j + 1) ((bs s).drop (at_ + 2 + i)) = 0 := hexLen_stop _ _ (Or.inl (by rw [atI_drop, Nat.add_zero, ← htn]; exact hx))
      rw [e0, List.take_zero, val_nil, Nat.add_zero, Nat.add_zero, ← htn] at hR
      clear n1 e0 ih
      by_cases hi0 : i = 0
      · have he : (to_ - (at_ : Int) == 2) = true := by simp; omega
        obtain ⟨hN, hT⟩ := hR.bad (Or.inl hi0)
        clear hR hk htn
        refine Lands.of rfl ?_
        go_wp2_with (first
          | (go_at_call 123; refine (byteAt_int _ _ (by omega) (by omega) (by assumption) _).mono ?_; rintro e w' ⟨rfl, rfl⟩)
          | (go_at_call 128; refine (inWord_any _ _).mono ?_; rintro e w' ⟨rfl, rfl⟩)
          | (go_at_call 126; refine (isDigit_any _ _).mono ?_; rintro e w' ⟨rfl, rfl⟩)
          | (go_at_call 158; refine (isHexDigit_any _ _).mono ?_; rintro e w' ⟨rfl, rfl⟩)
          | (go_at_call 159; refine (isQuotable_any _ _).mono ?_; rintro e w' ⟨rfl, rfl⟩)
          | (go_at_call 131; refine (digit_any _ (by assumption) _).mono ?_; rintro e w' ⟨rfl, rfl⟩))
        go_step3
        exact none_lands s at_ _ _ _ hN hT
      · have he : (to_ - (at_ : Int) == 2) = false := by simp; omega
        have hR2 := hR.turn (bad' := inW (atI (bs s) to_.toNat) = true) ⟨fun h => Or.inr h, fun h => h.resolve_left hi0⟩ rfl rfl
        cases hin : inW (atI (bs s) to_.toNat)
        · obtain ⟨hN, hT0⟩ := hR2.good (by rw [hin]; simp)
          have hT : T = to_ := by omega
          clear hR hR2 hk htn hT0
          subst hN hT
          refine Lands.of rfl ?_
          go_wp2_with (first
          | (go_at_call 123; refine (byteAt_int _ _ (by omega) (by omega) (by assumption) _).mono ?_; rintro e w' ⟨rfl, rfl⟩)
          | (go_at_call 128; refine (inWord_any _ _).mono ?_; rintro e w' ⟨rfl, rfl⟩)
          | (go_at_call 126; refine (isDigit_any _ _).mono ?_; rintro e w' ⟨rfl, rfl⟩)
          | (go_at_call 158; refine (isHexDigit_any _ _).mono ?_; rintro e w' ⟨rfl, rfl⟩)
          | (go_at_call 159; refine (isQuotable_any _ _).mono ?_; rintro e w' ⟨rfl, rfl⟩)
          | (go_at_call 131; refine (digit_any _ (by assumption) _).mono ?_; rintro e w' ⟨rfl, rfl⟩))
          go_step3
          go_wp2_with (first
          | (go_at_call 123; refine (byteAt_int _ _ (by omega) (by omega) (by assumption) _).mono ?_; rintro e w' ⟨rfl, rfl⟩)
          | (go_at_call 128; refine (inWord_any _ _).mono ?_; rintro e w' ⟨rfl, rfl⟩)
          | (go_at_call 126; refine (isDigit_any _ _).mono ?_; rintro e w' ⟨rfl, rfl⟩)
          | (go_at_call 158; refine (isHexDigit_any _ _).mono ?_; rintro e w' ⟨rfl, rfl⟩)
          | (go_at_call 159; refine (isQuotable_any _ _).mono ?_; rintro e w' ⟨rfl, rfl⟩)
          | (go_at_call 131; refine (digit_any _ (by assumption) _).mono ?_; rintro e w' ⟨rfl, rfl⟩))
          rw [jumps_ret]
          unfold Q28
          go_ret2
          exact ⟨rfl, rfl⟩
        · obtain ⟨hN, hT⟩ := hR2.bad hin
          clear hR hR2 hk htn
          refine Lands.of rfl ?_
          go_wp2_with (first
          | (go_at_call 123; refine (byteAt_int _ _ (by omega) (by omega) (by assumption) _).mono ?_; rintro e w' ⟨rfl, rfl⟩)
          | (go_at_call 128; refine (inWord_any _ _).mono ?_; rintro e w' ⟨rfl, rfl⟩)
          | (go_at_call 126; refine (isDigit_any _ _).mono ?_; rintro e w' ⟨rfl, rfl⟩)
          | (go_at_call 158; refine (isHexDigit_any _ _).mono ?_; rintro e w' ⟨rfl, rfl⟩)
          | (go_at_call 159; refine (isQuotable_any _ _).mono ?_; rintro e w' ⟨rfl, rfl⟩)
          | (go_at_call 131; refine (digit_any _ (by assumption) _).mono ?_; rintro e w' ⟨rfl, rfl⟩))
          go_step3
          go_wp2_with (first
          | (go_at_call 123; refine (byteAt_int _ _ (by omega) (by omega) (by assumption) _).mono ?_; rintro e w' ⟨rfl, rfl⟩)
          | (go_at_call 128; refine (inWord_any _ _).mono ?_; rintro e w' ⟨rfl, rfl⟩)
          | (go_at_call 126; refine (isDigit_any _ _).mono ?_; rintro e w' ⟨rfl, rfl⟩)
          | (go_at_call 158; refine (isHexDigit_any _ _).mono ?_; rintro e w' ⟨rfl, rfl⟩)
          | (go_at_call 159; refine (isQuotable_any _ _).mono ?_; rintro e w' ⟨rfl, rfl⟩)
          | (go_at_call 131; refine (digit_any _ (by assumption) _).mono ?_; rintro e w' ⟨rfl, rfl⟩))
          go_step3
          exact none_lands s at_ _ _ _ hN hT
    · have hhead : isHex (atI ((bs s).drop (at_ + 2 + i)) 0) = true := by rw [atI_drop, Nat.add_zero, ← htn]; exact hx
      obtain ⟨d0, d1⟩ := digI_lo _ hx
      have hv := hexTake_more j _ hhead n
      have hl := hexLen_more j _ hhead
      rw [atI_drop, List.drop_drop] at hv
      rw [List.drop_drop] at hl
      rw [hv, hl] at hR
      simp only [Nat.add_zero] at hR
      obtain ⟨q0, q1, q2⟩ := hex_step i n (digI (atI (bs s) to_.toNat)) (by omega) n0 n1 d0 d1
      have hn2 := hex_small i n (by omega) n1
      have hR2 : Res N T at_ (i + 1 + hexLen j ((bs s).drop (at_ + 2 + (i + 1))) = 0 ∨ inW (atI (bs s) (at_ + 2 + (i + 1) + hexLen j ((bs s).drop (at_ + 2 + (i + 1))))) = true)
          (val 16 (16 * n + digI (atI (bs s) to_.toNat)) (((bs s).drop (at_ + 2 + (i + 1))).take (hexLen j ((bs s).drop (at_ + 2 + (i + 1)))))) (at_ + 2 + (i + 1) + hexLen j ((bs s).drop (at_ + 2 + (i + 1)))) := by
        rw [htn]
        refine hR.turn ?_ ?_ ?_
        · rw [show at_ + 2 + (i + 1) = at_ + 2 + i + 1 by omega, show at_ + 2 + i + (hexLen j (List.drop (at_ + 2 + i + 1) (bs s)) + 1) = at_ + 2 + i + 1 + hexLen j (List.drop (at_ + 2 + i + 1) (bs s)) by omega]
          refine or_congr ?_ Iff.rfl
          omega
        · rw [show at_ + 2 + (i + 1) = at_ + 2 + i + 1 by omega]
        · rw [show at_ + 2 + (i + 1) = at_ + 2 + i + 1 by omega]; omega
      obtain ⟨c, hc⟩ : ∃ c, c = atI (bs s) to_.toNat := ⟨_, rfl⟩
      rw [← hc] at hx d0 d1 q0 q1 q2 hR2
      have hc' := hc.symm
      have hH := Hid.intro hR2
      have hH2 := Hid.intro hk
      have hH3 := Hid.intro q1
      clear hR hR2 hv hl hhead hc n1 q1 hk htn
      refine Lands.of rfl ?_
      go_wp2_with (first
      | (go_at_call 123; refine (byteAt_int _ _ (by omega) (by omega) (by assumption) _).mono ?_; rintro e w' ⟨rfl, rfl⟩)
      | (go_at_call 128; refine (inWord_any _ _).mono ?_; rintro e w' ⟨rfl, rfl⟩)
      | (go_at_call 126; refine (isDigit_any _ _).mono ?_; rintro e w' ⟨rfl, rfl⟩)
      | (go_at_call 158; refine (isHexDigit_any _ _).mono ?_; rintro e w' ⟨rfl, rfl⟩)
      | (go_at_call 159; refine (isQuotable_any _ _).mono ?_; rintro e w' ⟨rfl, rfl⟩)
      | (go_at_call 131; refine (digit_any _ (by assumption) _).mono ?_; rintro e w' ⟨rfl, rfl⟩))
      go_step3
      have hk := hH2.out
      exact ih (i + 1) _ _ (by omega) (by omega) q0 hH3.out hH.out
theorem quoted_lands (s : ByteArray) (at_ : Nat) (N T : Int) (w : World) (hs : s.size ≤ 4611686018427387800) (ha : at_ ≤ s.size)
    (hR : Res N T at_ (¬ (isQuo (atI (bs s) (at_ + 1)) = true ∧ atI (bs s) (at_ + 2) = 39)) (atI (bs s) (at_ + 1)) (at_ + 3)) {u2 u3 u4 u5 u6 u7 u8 u9 u10 u11 u12 u13 u14 u15 u16 u17 u18 u19 u20 u21 u22 u23 u24 u25 u26 u27 u28 u29 u30 u31 u32 u33 u34 u35 u36 u37 u38 u39 u40 u41 u42 u43 u44 u45 u46 u47 u48 u49 u50 u51 u52 u53 u54 u55 u56 u57 u58 u59 u60 u61 u62 u63 u64 u65 u66 u67 u68 u69 u70 u71 u72 u73 u74 u75 u76 u77 u78 u79 u80 u81 u82 u83 u84 u85 u86 u87 u88 u89 u90 u91 u92 u93 u94 u95 u96 u97 u98 u99 : Value} :
    Lands Tryz.prog (scopeOf Tryz.f129) (Q28 N T w) 0 { tmps := List.toArray (.string s :: .int .i64 (at_ : Int) :: u2 :: u3 :: u4 :: u5 :: u6 :: u7 :: u8 :: u9 :: u10 :: u11 :: u12 :: u13 :: u14 :: u15 :: u16 :: u17 :: u18 :: u19 :: u20 :: u21 :: u22 :: u23 :: u24 :: u25 :: u26 :: u27 :: u28 :: u29 :: u30 :: u31 :: u32 :: u33 :: u34 :: u35 :: u36 :: u37 :: u38 :: u39 :: u40 :: u41 :: u42 :: u43 :: u44 :: u45 :: u46 :: u47 :: u48 :: u49 :: u50 :: u51 :: u52 :: u53 :: u54 :: u55 :: u56 :: u57 :: u58 :: u59 :: u60 :: u61 :: u62 :: u63 :: u64 :: u65 :: u66 :: u67 :: u68 :: u69 :: u70 :: u71 :: u72 :: u73 :: u74 :: u75 :: u76 :: u77 :: u78 :: u79 :: u80 :: u81 :: u82 :: u83 :: u84 :: u85 :: u86 :: u87 :: u88 :: u89 :: u90 :: u91 :: u92 :: u93 :: u94 :: u95 :: u96 :: u97 :: u98 :: u99 :: []), defers := [] } w := by
  have e1 : ((at_ : Int) + 1).toNat = at_ + 1 := by omega
  have e2 : ((at_ : Int) + 2).toNat = at_ + 2 := by omega
  have hs2 : s.size ≤ 4611686018427387904 := by omega
  cases hq : isQuo (atI (bs s) (at_ + 1))
  · obtain ⟨hN, hT⟩ := hR.bad (by rw [hq]; simp)
    clear hR
    subst hN hT
    refine Lands.of rfl ?_
    go_wp2_with (first
      | (go_at_call 123; refine (byteAt_int _ _ (by omega) (by omega) (by assumption) _).mono ?_; rintro e w' ⟨rfl, rfl⟩)
      | (go_at_call 128; refine (inWord_any _ _).mono ?_; rintro e w' ⟨rfl, rfl⟩)
      | (go_at_call 126; refine (isDigit_any _ _).mono ?_; rintro e w' ⟨rfl, rfl⟩)
      | (go_at_call 158; refine (isHexDigit_any _ _).mono ?_; rintro e w' ⟨rfl, rfl⟩)
      | (go_at_call 159; refine (isQuotable_any _ _).mono ?_; rintro e w' ⟨rfl, rfl⟩)
      | (go_at_call 131; refine (digit_any _ (by assumption) _).mono ?_; rintro e w' ⟨rfl, rfl⟩))
    go_step3
    go_wp2
    rw [jumps_ret]
    unfold Q28
    go_ret2
    exact ⟨rfl, rfl⟩
  · by_cases h2 : atI (bs s) (at_ + 2) = 39
    · obtain ⟨hN, hT⟩ := hR.good (by simp [hq, h2])
      have hlt : at_ + 1 < s.size := by
        apply Decidable.byContradiction
        intro hn
        rw [atI_out (bs s) (at_ + 2) (by rw [bs_length]; omega)] at h2
        omega
      have hg := atI_get s (at_ + 1) hlt
      clear hR
      have hT' : T = (at_ : Int) + 3 := by omega
      subst hN hT'
      clear hT
      have hgi : ((s[((at_ : Int) + 1).toNat]'(by omega)).toNat : Int) = atI (bs s) (at_ + 1) := by rw [← hg]; congr 2
      have hb0 := atI_lo (bs s) (at_ + 1)
      have hb1 := atI_hi (bs s) (at_ + 1)
      refine Lands.of rfl ?_
      go_wp2_with (first
      | (go_at_call 123; refine (byteAt_int _ _ (by omega) (by omega) (by assumption) _).mono ?_; rintro e w' ⟨rfl, rfl⟩)
      | (go_at_call 128; refine (inWord_any _ _).mono ?_; rintro e w' ⟨rfl, rfl⟩)
      | (go_at_call 126; refine (isDigit_any _ _).mono ?_; rintro e w' ⟨rfl, rfl⟩)
      | (go_at_call 158; refine (isHexDigit_any _ _).mono ?_; rintro e w' ⟨rfl, rfl⟩)
      | (go_at_call 159; refine (isQuotable_any _ _).mono ?_; rintro e w' ⟨rfl, rfl⟩)
      | (go_at_call 131; refine (digit_any _ (by assumption) _).mono ?_; rintro e w' ⟨rfl, rfl⟩))
      rw [jumps_ret]
      unfold Q28
      go_ret2
      exact ⟨by first | rfl | (simp only [hg]) | (simp only [hgi]), rfl⟩
    · obtain ⟨hN, hT⟩ := hR.bad (by simp [h2])
      have h2' : (atI (bs s) (at_ + 2) == 39) = false := by simpa using h2
      clear hR h2
      subst hN hT
      refine Lands.of rfl ?_
      go_wp2_with (first
      | (go_at_call 123; refine (byteAt_int _ _ (by omega) (by omega) (by assumption) _).mono ?_; rintro e w' ⟨rfl, rfl⟩)
      | (go_at_call 128; refine (inWord_any _ _).mono ?_; rintro e w' ⟨rfl, rfl⟩)
      | (go_at_call 126; refine (isDigit_any _ _).mono ?_; rintro e w' ⟨rfl, rfl⟩)
      | (go_at_call 158; refine (isHexDigit_any _ _).mono ?_; rintro e w' ⟨rfl, rfl⟩)
      | (go_at_call 159; refine (isQuotable_any _ _).mono ?_; rintro e w' ⟨rfl, rfl⟩)
      | (go_at_call 131; refine (digit_any _ (by assumption) _).mono ?_; rintro e w' ⟨rfl, rfl⟩))
      go_step3
      go_wp2
      rw [jumps_ret]
      unfold Q28
      go_ret2
      exact ⟨rfl, rfl⟩
end Go.Proofs.YtogkchgjpflmjaaGreatDoor
/- lex.numberAt: the contract. -/
namespace Go.Proofs.YtogkchgjpflmjaaGreatDoor
open Go.ChangeShapes Go.WideShapes Go.ChangeAt Go.RowKit
set_option linter.unusedVariables false
set_option maxRecDepth 100000
theorem res_of (r : List UInt8) (at_ : Nat) (bad : Prop) (v : Int) (k : Nat) (h1 : bad → numAt r = none) (h2 : ¬ bad → numAt r = some (v, k)) :
    Res (numN r) ((at_ : Int) + numL r) at_ bad v (at_ + k) := by
  refine ⟨fun hb => ?_, fun hb => ?_⟩
  · simp [numN, numL, h1 hb]
  · simp [numN, numL, h2 hb]
theorem num_quoted (r : List UInt8) (at_ : Nat) (h : atI r 0 = 39) :
    Res (numN r) ((at_ : Int) + numL r) at_ (¬ (isQuo (atI r 1) = true ∧ atI r 2 = 39)) (atI r 1) (at_ + 3) := by
  apply res_of
  · intro hb; unfold numAt; rw [if_pos h, if_neg hb]
  · intro hb; unfold numAt; rw [if_pos h, if_pos (Decidable.not_not.1 hb)]
theorem num_hex (r : List UInt8) (at_ : Nat) (h : atI r 0 = 48) (h1 : atI r 1 = 120) :
    Res (numN r) ((at_ : Int) + numL r) at_ (hexLen 8 (r.drop 2) = 0 ∨ inW (atI r (2 + hexLen 8 (r.drop 2))) = true) (val 16 0 ((r.drop 2).take (hexLen 8 (r.drop 2)))) (at_ + (2 + hexLen 8 (r.drop 2))) := by
  apply res_of
  · intro hb; unfold numAt; rw [if_neg (by omega), if_pos ⟨h, h1⟩, if_pos hb]
  · intro hb; unfold numAt; rw [if_neg (by omega), if_pos ⟨h, h1⟩, if_neg hb]
theorem num_zero (r : List UInt8) (at_ : Nat) (h : atI r 0 = 48) (h1 : ¬ atI r 1 = 120) :
    Res (numN r) ((at_ : Int) + numL r) at_ (inW (atI r 1) = true) 0 (at_ + 1) := by
  apply res_of
  · intro hb; unfold numAt; rw [if_neg (by omega), if_neg (fun x => h1 x.2), if_pos h, if_pos hb]
  · intro hb; unfold numAt; rw [if_neg (by omega), if_neg (fun x => h1 x.2), if_pos h, if_neg hb]
theorem num_dec (r : List UInt8) (at_ : Nat) (h : ¬ atI r 0 = 39) (h1 : ¬ atI r 0 = 48) :
    Res (numN r) ((at_ : Int) + numL r) at_ (4294967295 < val 10 0 (r.take (lenW isDig r)) ∨ inW (atI r (lenW isDig r)) = true) (val 10 0 (r.take (lenW isDig r))) (at_ + lenW isDig r) := by
  apply res_of
  · intro hb; unfold numAt; rw [if_neg h, if_neg (fun x => h1 x.1), if_neg h1, if_pos hb]
  · intro hb; unfold numAt; rw [if_neg h, if_neg (fun x => h1 x.1), if_neg h1, if_neg hb]
theorem numberAt_any (s : ByteArray) (at_ : Nat) (ha : at_ < s.size) (hs : s.size ≤ 4611686018427387800) (hd : isDig (atI (bs s) at_) = true ∨ atI (bs s) at_ = 39) (w : World) :
    Calls Tryz.prog 129 #[.string s, .int .i64 (at_ : Int)] w fun e w' => e = .returned (.tuple #[.int .u32 (numN ((bs s).drop at_)), .int .i64 ((at_ : Int) + numL ((bs s).drop at_))]) ∧ w' = w := by
  have hg := atI_get s at_ ha
  have hs2 : s.size ≤ 4611686018427387904 := by omega
  have r0 : atI ((bs s).drop at_) 0 = atI (bs s) at_ := by rw [atI_drop, Nat.add_zero]
  have r1 : atI ((bs s).drop at_) 1 = atI (bs s) (at_ + 1) := by rw [atI_drop]
  have r2 : atI ((bs s).drop at_) 2 = atI (bs s) (at_ + 2) := by rw [atI_drop]
  have e1 : ((at_ : Int) + 1).toNat = at_ + 1 := by omega
  obtain ⟨N, hN⟩ : ∃ N, N = numN ((bs s).drop at_) := ⟨_, rfl⟩
  obtain ⟨T, hT⟩ : ∃ T, T = (at_ : Int) + numL ((bs s).drop at_) := ⟨_, rfl⟩
  rw [← hN, ← hT]
  by_cases hq : atI (bs s) at_ = 39
  · have hR := Hid.intro (num_quoted ((bs s).drop at_) at_ (by rw [r0]; exact hq))
    rw [r1, r2, ← hN, ← hT] at hR
    clear hN hT r0 r1 r2 hd
    go_enter Tryz.func129, Tryz.ntmps129
    go_wp2
    refine wp_scope_at (Q := Q28 N T _) Tryz.f129 rfl ?_
    go_wp2_with (first
      | (go_at_call 123; refine (byteAt_int _ _ (by omega) (by omega) (by assumption) _).mono ?_; rintro e w' ⟨rfl, rfl⟩)
      | (go_at_call 128; refine (inWord_any _ _).mono ?_; rintro e w' ⟨rfl, rfl⟩)
      | (go_at_call 126; refine (isDigit_any _ _).mono ?_; rintro e w' ⟨rfl, rfl⟩)
      | (go_at_call 158; refine (isHexDigit_any _ _).mono ?_; rintro e w' ⟨rfl, rfl⟩)
      | (go_at_call 159; refine (isQuotable_any _ _).mono ?_; rintro e w' ⟨rfl, rfl⟩)
      | (go_at_call 131; refine (digit_any _ (by assumption) _).mono ?_; rintro e w' ⟨rfl, rfl⟩))
    go_step3
    exact quoted_lands s at_ N T _ hs (by omega) hR.out
  · have hd1 : isDig (atI (bs s) at_) = true := hd.resolve_right hq
    have hqf : (atI (bs s) at_ == 39) = false := by simpa using hq
    by_cases h0 : atI (bs s) at_ = 48
    · by_cases h1 : atI (bs s) (at_ + 1) = 120
      · have hR := num_hex ((bs s).drop at_) at_ (by rw [r0]; exact h0) (by rw [r1]; exact h1)
        rw [← hN, ← hT, List.drop_drop, atI_drop] at hR
        have hR2 : Res N T at_ (0 + hexLen 8 ((bs s).drop (at_ + 2 + 0)) = 0 ∨ inW (atI (bs s) (at_ + 2 + 0 + hexLen 8 ((bs s).drop (at_ + 2 + 0)))) = true)
            (val 16 0 (((bs s).drop (at_ + 2 + 0)).take (hexLen 8 ((bs s).drop (at_ + 2 + 0))))) (at_ + 2 + 0 + hexLen 8 ((bs s).drop (at_ + 2 + 0))) := by
          refine hR.turn ?_ rfl (by simp only [Nat.add_zero]; omega)
          rw [Nat.zero_add, show at_ + 2 + 0 = at_ + 2 by omega, Nat.add_assoc]
        have hH := Hid.intro hR2
        clear hN hT r0 r1 r2 hd hR hR2 hq hqf hd1
        go_enter Tryz.func129, Tryz.ntmps129
        go_wp2
        refine wp_scope_at (Q := Q28 N T _) Tryz.f129 rfl ?_
        go_wp2_with (first
      | (go_at_call 123; refine (byteAt_int _ _ (by omega) (by omega) (by assumption) _).mono ?_; rintro e w' ⟨rfl, rfl⟩)
      | (go_at_call 128; refine (inWord_any _ _).mono ?_; rintro e w' ⟨rfl, rfl⟩)
      | (go_at_call 126; refine (isDigit_any _ _).mono ?_; rintro e w' ⟨rfl, rfl⟩)
      | (go_at_call 158; refine (isHexDigit_any _ _).mono ?_; rintro e w' ⟨rfl, rfl⟩)
      | (go_at_call 159; refine (isQuotable_any _ _).mono ?_; rintro e w' ⟨rfl, rfl⟩)
      | (go_at_call 131; refine (digit_any _ (by assumption) _).mono ?_; rintro e w' ⟨rfl, rfl⟩))
        go_step3
        exact hex_lands s at_ N T _ hs (by omega) 8 0 _ 0 rfl (by omega) (by omega) (by simp) hH.out
      · have hR := num_zero ((bs s).drop at_) at_ (by rw [r0]; exact h0) (by rw [r1]; exact h1)
        rw [← hN, ← hT, r1] at hR
        have h1f : (atI (bs s) (at_ + 1) == 120) = false := by simpa using h1
        have hH := Hid.intro hR
        clear hN hT r0 r1 r2 hd hR hq hqf hd1 h1
        go_enter Tryz.func129, Tryz.ntmps129
        go_wp2
        refine wp_scope_at (Q := Q28 N T _) Tryz.f129 rfl ?_
        go_wp2_with (first
      | (go_at_call 123; refine (byteAt_int _ _ (by omega) (by omega) (by assumption) _).mono ?_; rintro e w' ⟨rfl, rfl⟩)
      | (go_at_call 128; refine (inWord_any _ _).mono ?_; rintro e w' ⟨rfl, rfl⟩)
      | (go_at_call 126; refine (isDigit_any _ _).mono ?_; rintro e w' ⟨rfl, rfl⟩)
      | (go_at_call 158; refine (isHexDigit_any _ _).mono ?_; rintro e w' ⟨rfl, rfl⟩)
      | (go_at_call 159; refine (isQuotable_any _ _).mono ?_; rintro e w' ⟨rfl, rfl⟩)
      | (go_at_call 131; refine (digit_any _ (by assumption) _).mono ?_; rintro e w' ⟨rfl, rfl⟩))
        go_step3
        exact behind_lands s at_ (at_ + 1) 0 _ N T _ (by omega) (by omega) hs2 (by omega) (by omega) hH.out
    · have hR := num_dec ((bs s).drop at_) at_ (by rw [r0]; exact hq) (by rw [r0]; exact h0)
      rw [← hN, ← hT, atI_drop] at hR
      have h0f : (atI (bs s) at_ == 48) = false := by simpa using h0
      have hx := isHex_of_dig _ hd1
      obtain ⟨d0, d1⟩ := digI_dig _ hd1
      have hhead : isDig (atI ((bs s).drop at_) 0) = true := by rw [r0]; exact hd1
      have hv := take_more isDig isDig_zero ((bs s).drop at_) hhead 10 0
      have hl := (lenW_more isDig isDig_zero ((bs s).drop at_) hhead).1
      rw [List.drop_drop] at hl
      rw [List.drop_drop, r0, show (10 : Int) * 0 + digI (atI (bs s) at_) = digI (atI (bs s) at_) by omega] at hv
      have hR2 : Res N T at_ (4294967295 < val 10 (digI (atI (bs s) at_)) (((bs s).drop (at_ + 1)).take (lenW isDig ((bs s).drop (at_ + 1)))) ∨ inW (atI (bs s) (at_ + 1 + lenW isDig ((bs s).drop (at_ + 1)))) = true)
          (val 10 (digI (atI (bs s) at_)) (((bs s).drop (at_ + 1)).take (lenW isDig ((bs s).drop (at_ + 1))))) (at_ + 1 + lenW isDig ((bs s).drop (at_ + 1))) := by
        refine hR.turn ?_ hv.symm (by rw [hl]; omega)
        rw [hv, hl, show at_ + 1 + lenW isDig (List.drop (at_ + 1) (bs s)) = at_ + (lenW isDig (List.drop (at_ + 1) (bs s)) + 1) by omega]
      obtain ⟨c, hc⟩ : ∃ c, c = atI (bs s) at_ := ⟨_, rfl⟩
      rw [← hc] at hd1 hx d0 d1 hR2 hqf h0f hg
      have hc' := hc.symm
      have hH := Hid.intro hR2
      clear hN hT r0 r1 r2 hd hR hR2 hq h0 hhead hv hl hc
      go_enter Tryz.func129, Tryz.ntmps129
      go_wp2
      refine wp_scope_at (Q := Q28 N T _) Tryz.f129 rfl ?_
      go_wp2_with (first
      | (go_at_call 123; refine (byteAt_int _ _ (by omega) (by omega) (by assumption) _).mono ?_; rintro e w' ⟨rfl, rfl⟩)
      | (go_at_call 128; refine (inWord_any _ _).mono ?_; rintro e w' ⟨rfl, rfl⟩)
      | (go_at_call 126; refine (isDigit_any _ _).mono ?_; rintro e w' ⟨rfl, rfl⟩)
      | (go_at_call 158; refine (isHexDigit_any _ _).mono ?_; rintro e w' ⟨rfl, rfl⟩)
      | (go_at_call 159; refine (isQuotable_any _ _).mono ?_; rintro e w' ⟨rfl, rfl⟩)
      | (go_at_call 131; refine (digit_any _ (by assumption) _).mono ?_; rintro e w' ⟨rfl, rfl⟩))
      go_step3
      go_wp2_with (first
      | (go_at_call 123; refine (byteAt_int _ _ (by omega) (by omega) (by assumption) _).mono ?_; rintro e w' ⟨rfl, rfl⟩)
      | (go_at_call 128; refine (inWord_any _ _).mono ?_; rintro e w' ⟨rfl, rfl⟩)
      | (go_at_call 126; refine (isDigit_any _ _).mono ?_; rintro e w' ⟨rfl, rfl⟩)
      | (go_at_call 158; refine (isHexDigit_any _ _).mono ?_; rintro e w' ⟨rfl, rfl⟩)
      | (go_at_call 159; refine (isQuotable_any _ _).mono ?_; rintro e w' ⟨rfl, rfl⟩)
      | (go_at_call 131; refine (digit_any _ (by assumption) _).mono ?_; rintro e w' ⟨rfl, rfl⟩))
      go_step3
      exact dec_lands s at_ N T _ hs _ (at_ + 1) _ _ (by omega) (by omega) rfl (by omega) (by omega) hH.out
end Go.Proofs.YtogkchgjpflmjaaGreatDoor
/- lex.Tokens: the tokens of a text. -/
namespace Go.Proofs.YtogkchgjpflmjaaGreatDoor
open Go.ChangeShapes Go.WideShapes Go.ChangeAt Go.RowKit
set_option linter.unusedVariables false
set_option maxRecDepth 100000
def str (l : List UInt8) : ByteArray := ⟨l.toArray⟩
def Tok.cells (t : Tok) : List Value := [.int .i64 t.kind, .string (str t.text), .int .u32 t.num, .int .i64 (t.place : Int)]
def rowOf (ts : List Tok) : List Value := ts.flatMap Tok.cells
theorem Tryz.info188 : (Tryz.prog.info? 188).map (fun i => (i.zero, i.size, i.bytes)) = some (some (.agg #[.int .i64 0, .string ⟨#[]⟩, .int .u32 0, .int .i64 0]), 4, 40) := by kernel_rfl
theorem ownsRow_below {w w' : World} {B : Nat} {e : TypeId} {size : Nat} {v : Value} {n : Nat} {xs : List Value} (h : w.ownsRow B e size v n xs) (hb : Below w.heap.size w w') : w'.ownsRow B e size v n xs := by
  obtain ⟨hl, h | ⟨g, cap, cur, hv, hbg, hg, r⟩⟩ := h
  · exact ⟨hl, .inl h⟩
  · have hlt : g < w.heap.size := by
      apply Decidable.byContradiction
      intro hn
      rw [Array.getElem?_eq_none (by omega)] at hg
      cases hg
    exact ⟨hl, .inr ⟨g, cap, cur, hv, hbg, by rw [hb.block g hlt]; exact hg, r⟩⟩
theorem cells_new (w : World) (cs : Array Value) (T : TypeId) : ∀ j u, cs.toList[j]? = some u → (w.alloc (.cells cs T)).cell? ((⟨w.heap.size, 0, none⟩ : Addr).add j) = some u := by
  intro j u h
  refine Lib.cells_of_row (heap_alloc_new w _) cs.size j u ?_
  rw [List.take_of_length_le (by simp)]
  exact h
theorem rowOf_push (acc : List Tok) (t : Tok) : rowOf (acc ++ [t]) = rowOf acc ++ t.cells := by simp [rowOf]
def Out (B : Nat) (w0 : World) (R : Except Nat (List Tok)) (e : Ending) (w' : World) : Prop :=
  Below B w0 w' ∧ match R with
  | .ok ts => ∃ v, e = .returned (.tuple #[v, .int .i64 0, .int .i64 0]) ∧ w'.ownsRow B 188 4 v ts.length (rowOf ts)
  | .error p => e = .returned (.tuple #[.slice none 0 0, .int .i64 (p : Int), .int .i64 20])
def Q9 (B : Nat) (w0 : World) (R : Except Nat (List Tok)) : Exit → Act → World → Prop := bodyPost Tryz.prog Tryz.f101 (Out B w0 R)
theorem whole_lands (s : ByteArray) (B : Nat) (w0 w : World) (R : Except Nat (List Tok)) (hs : s.size ≤ 1100000) (acc : List Tok) (v : Value) (n to_ kind : Int) (at_ p : Nat)
    (hp : to_ = p) (h1 : at_ < p) (h2 : p ≤ s.size) (hacc : acc.length ≤ at_) (hown : w.ownsRow B 188 4 v acc.length (rowOf acc)) (hbel : Below B w0 w) (hB : B ≤ w.heap.size)
    (hnext : Hid (∀ (w' : World) (v' : Value), w'.ownsRow B 188 4 v' (acc.length + 1) (rowOf (acc ++ [{ kind := kind, text := ((bs s).drop at_).take (p - at_), num := n, place := at_ }])) → Below B w0 w' → B ≤ w'.heap.size → ∀ {u1 u2 u3 u4 u6 u8 u9 u10 u11 u12 u13 u14 u15 u16 u17 u18 u19 u20 u21 u22 u23 u24 u25 u26 u27 u28 u29 u30 u31 u32 u33 u34 u35 u36 u37 u38 u39 u40 u41 u42 u43 u44 u45 u46 u47 u48 u49 u50 u51 u52 u53 u54 u55 u56 u57 u58 u59 u60 u61 u62 u63 u64 u65 u66 u67 u68 u69 u70 u71 u72 u73 u74 u75 : Value}, Lands Tryz.prog (scopeOf Tryz.f101) (Q9 B w0 R) 0 { tmps := List.toArray (.string s :: u1 :: u2 :: u3 :: u4 :: v' :: u6 :: .int .i64 (p : Int) :: u8 :: u9 :: u10 :: u11 :: u12 :: u13 :: u14 :: u15 :: u16 :: u17 :: u18 :: u19 :: u20 :: u21 :: u22 :: u23 :: u24 :: u25 :: u26 :: u27 :: u28 :: u29 :: u30 :: u31 :: u32 :: u33 :: u34 :: u35 :: u36 :: u37 :: u38 :: u39 :: u40 :: u41 :: u42 :: u43 :: u44 :: u45 :: u46 :: u47 :: u48 :: u49 :: u50 :: u51 :: u52 :: u53 :: u54 :: u55 :: u56 :: u57 :: u58 :: u59 :: u60 :: u61 :: u62 :: u63 :: u64 :: u65 :: u66 :: u67 :: u68 :: u69 :: u70 :: u71 :: u72 :: u73 :: u74 :: u75 :: []), defers := [] } w')) {u1 u2 u3 u4 u10 u11 u12 u13 u14 u15 u16 u17 u18 u19 u20 u21 u22 u23 u24 u25 u26 u27 u28 u29 u30 u31 u32 u33 u34 u35 u36 u37 u38 u39 u40 u41 u42 u43 u44 u45 u46 u47 u48 u49 u50 u51 u52 u53 u54 u55 u56 u57 u58 u59 u60 u61 u62 u63 u64 u65 u66 u67 u68 u69 u70 u71 u72 u73 u74 u75 : Value} :
    Lands Tryz.prog (scopeOf Tryz.f101) (Q9 B w0 R) 3 { tmps := List.toArray (.string s :: u1 :: u2 :: u3 :: u4 :: v :: .int .u32 n :: .int .i64 (at_ : Int) :: .int .i64 to_ :: .int .i64 kind :: u10 :: u11 :: u12 :: u13 :: u14 :: u15 :: u16 :: u17 :: u18 :: u19 :: u20 :: u21 :: u22 :: u23 :: u24 :: u25 :: u26 :: u27 :: u28 :: u29 :: u30 :: u31 :: u32 :: u33 :: u34 :: u35 :: u36 :: u37 :: u38 :: u39 :: u40 :: u41 :: u42 :: u43 :: u44 :: u45 :: u46 :: u47 :: u48 :: u49 :: u50 :: u51 :: u52 :: u53 :: u54 :: u55 :: u56 :: u57 :: u58 :: u59 :: u60 :: u61 :: u62 :: u63 :: u64 :: u65 :: u66 :: u67 :: u68 :: u69 :: u70 :: u71 :: u72 :: u73 :: u74 :: u75 :: []), defers := [] } w := by
  subst hp
  obtain ⟨T, hT⟩ : ∃ T, T = ((bs s).drop at_).take (p - at_) := ⟨_, rfl⟩
  have hsl : ∀ W : World, (Instr.slice 9 (.string s) (some (.int .i64 (at_ : Int))) (some (.int .i64 (p : Int))) none).run Tryz.prog W = .ok (.string (str T)) W := fun W => by
    rw [run_slice_string W 9 s .i64 .i64 at_ p Tryz.underlying9 (by omega) (by omega) (by omega), Lib.extract_eq, hT]
    simp [str, bs]
  have hTs : (str T).size ≤ 1100000 := by
    have : (str T).size = T.length := by simp [str, ByteArray.size]
    rw [this, hT, List.length_take, List.length_drop, bs_length]
    omega
  rw [← hT] at hnext
  clear hT
  obtain ⟨i0, hi, hz0, hz1, hz2⟩ := info_parts Tryz.info188
  have hlen : acc.length ≤ 1100000 := by omega
  refine Lands.of rfl ?_
  go_wp2_with (first
      | (go_at_call 39; refine (clone_any _ _ (by omega)).mono ?_; rintro e w' ⟨rfl, hb⟩)
      | (at_builtin; go_must (refine wpList_append_own_wide _ rfl (.tmp 63) (.tmp 73) 182 rfl B 188 i0 (.agg #[.int .i64 0, .string ⟨#[]⟩, .int .u32 0, .int .i64 0]) 4 40 Tryz.underlying182 hi hz0 hz1 hz2 rfl (by decide) v acc.length (rowOf acc) rfl ((ownsRow_below hown hb).alloc _) ⟨w'.heap.size, 0, none⟩ 1 1 [.int .i64 kind, .string (str T), .int .u32 n, .int .i64 (at_ : Int)] rfl rfl (cells_new _ _ _) (by simp [Value.oneCell']) (by unfold maxLen; omega) (by omega) (by have := hb.size; simp; omega) ?_; intro v2 w2 hown2 hgrow2 _)))
  go_step3
  have hbs := hb.size
  refine hnext.out w2 v2 ?_ ?_ ?_
  · rw [rowOf_push]; exact hown2
  · exact ((hbel.trans (hb.mono hB)).alloc (by omega) _).grown hgrow2 (by simp; omega) (fun k hk => (hown.lt k hk).1)
  · have := hgrow2.size; simp at this; omega
end Go.Proofs.YtogkchgjpflmjaaGreatDoor
/- lex.Tokens: the tokens of a text: its states. -/
namespace Go.Proofs.YtogkchgjpflmjaaGreatDoor
open Go.ChangeShapes Go.WideShapes Go.ChangeAt Go.RowKit
set_option linter.unusedVariables false
set_option maxRecDepth 100000
theorem wrong_lands (s : ByteArray) (B : Nat) (w0 w : World) (R : Except Nat (List Tok)) (at_ : Nat) (hR : R = .error at_) (hbel : Below B w0 w) {u1 u2 u3 u4 u5 u6 u8 u9 u10 u11 u12 u13 u14 u15 u16 u17 u18 u19 u20 u21 u22 u23 u24 u25 u26 u27 u28 u29 u30 u31 u32 u33 u34 u35 u36 u37 u38 u39 u40 u41 u42 u43 u44 u45 u46 u47 u48 u49 u50 u51 u52 u53 u54 u55 u56 u57 u58 u59 u60 u61 u62 u63 u64 u65 u66 u67 u68 u69 u70 u71 u72 u73 u74 u75 : Value} :
    Lands Tryz.prog (scopeOf Tryz.f101) (Q9 B w0 R) 4 { tmps := List.toArray (.string s :: u1 :: u2 :: u3 :: u4 :: u5 :: u6 :: .int .i64 (at_ : Int) :: u8 :: u9 :: u10 :: u11 :: u12 :: u13 :: u14 :: u15 :: u16 :: u17 :: u18 :: u19 :: u20 :: u21 :: u22 :: u23 :: u24 :: u25 :: u26 :: u27 :: u28 :: u29 :: u30 :: u31 :: u32 :: u33 :: u34 :: u35 :: u36 :: u37 :: u38 :: u39 :: u40 :: u41 :: u42 :: u43 :: u44 :: u45 :: u46 :: u47 :: u48 :: u49 :: u50 :: u51 :: u52 :: u53 :: u54 :: u55 :: u56 :: u57 :: u58 :: u59 :: u60 :: u61 :: u62 :: u63 :: u64 :: u65 :: u66 :: u67 :: u68 :: u69 :: u70 :: u71 :: u72 :: u73 :: u74 :: u75 :: []), defers := [] } w := by
  subst hR
  refine Lands.of rfl ?_
  go_wp2
  rw [jumps_ret]
  unfold Q9
  go_ret3
  exact ⟨hbel, rfl⟩
theorem name_lands (s : ByteArray) (B : Nat) (w0 w : World) (R : Except Nat (List Tok)) (hs : s.size ≤ 1100000) (v : Value) (n kind : Int) (at_ E : Nat) (hat : at_ ≤ E) (hE : E ≤ s.size) (hbel : Below B w0 w)
    (hgood : Hid (E - at_ ≤ 32 → ∀ {u1 u2 u3 u4 u10 u11 u12 u13 u14 u15 u16 u17 u18 u19 u20 u21 u22 u23 u24 u25 u26 u27 u28 u29 u30 u31 u32 u33 u34 u35 u36 u37 u38 u39 u40 u41 u42 u43 u44 u45 u46 u47 u48 u49 u50 u51 u52 u53 u54 u55 u56 u57 u58 u59 u60 u61 u62 u63 u64 u65 u66 u67 u68 u69 u70 u71 u72 u73 u74 u75 : Value}, Lands Tryz.prog (scopeOf Tryz.f101) (Q9 B w0 R) 3 { tmps := List.toArray (.string s :: u1 :: u2 :: u3 :: u4 :: v :: .int .u32 n :: .int .i64 (at_ : Int) :: .int .i64 (E : Int) :: .int .i64 kind :: u10 :: u11 :: u12 :: u13 :: u14 :: u15 :: u16 :: u17 :: u18 :: u19 :: u20 :: u21 :: u22 :: u23 :: u24 :: u25 :: u26 :: u27 :: u28 :: u29 :: u30 :: u31 :: u32 :: u33 :: u34 :: u35 :: u36 :: u37 :: u38 :: u39 :: u40 :: u41 :: u42 :: u43 :: u44 :: u45 :: u46 :: u47 :: u48 :: u49 :: u50 :: u51 :: u52 :: u53 :: u54 :: u55 :: u56 :: u57 :: u58 :: u59 :: u60 :: u61 :: u62 :: u63 :: u64 :: u65 :: u66 :: u67 :: u68 :: u69 :: u70 :: u71 :: u72 :: u73 :: u74 :: u75 :: []), defers := [] } w))
    (hbad : Hid (32 < E - at_ → R = .error at_)) :
    ∀ (m k : Nat), k ≤ E → k + m = E → at_ ≤ k → lenW inW ((bs s).drop k) = m →
    ∀ {u1 u2 u3 u4 u10 u11 u12 u13 u14 u15 u16 u17 u18 u19 u20 u21 u22 u23 u24 u25 u26 u27 u28 u29 u30 u31 u32 u33 u34 u35 u36 u37 u38 u39 u40 u41 u42 u43 u44 u45 u46 u47 u48 u49 u50 u51 u52 u53 u54 u55 u56 u57 u58 u59 u60 u61 u62 u63 u64 u65 u66 u67 u68 u69 u70 u71 u72 u73 u74 u75 : Value}, Lands Tryz.prog (scopeOf Tryz.f101) (Q9 B w0 R) 1 { tmps := List.toArray (.string s :: u1 :: u2 :: u3 :: u4 :: v :: .int .u32 n :: .int .i64 (at_ : Int) :: .int .i64 (k : Int) :: .int .i64 kind :: u10 :: u11 :: u12 :: u13 :: u14 :: u15 :: u16 :: u17 :: u18 :: u19 :: u20 :: u21 :: u22 :: u23 :: u24 :: u25 :: u26 :: u27 :: u28 :: u29 :: u30 :: u31 :: u32 :: u33 :: u34 :: u35 :: u36 :: u37 :: u38 :: u39 :: u40 :: u41 :: u42 :: u43 :: u44 :: u45 :: u46 :: u47 :: u48 :: u49 :: u50 :: u51 :: u52 :: u53 :: u54 :: u55 :: u56 :: u57 :: u58 :: u59 :: u60 :: u61 :: u62 :: u63 :: u64 :: u65 :: u66 :: u67 :: u68 :: u69 :: u70 :: u71 :: u72 :: u73 :: u74 :: u75 :: []), defers := [] } w := by
  intro m
  induction m with
  | zero =>
    intro k hk hm hak hl
    intros
    have e : k = E := by omega
    subst e
    have hin : inW (atI (bs s) k) = false := by
      cases h : inW (atI (bs s) k)
      · rfl
      · have := (lenW_more inW inW_zero ((bs s).drop k) (by rw [atI_drop]; exact h)).1
        omega
    clear hl
    by_cases hb : 32 < k - at_
    · have hR := hbad.out hb
      have hlt : (32 : Int) < (k : Int) - (at_ : Int) := by omega
      clear hgood hbad hb
      subst hR
      refine Lands.of rfl ?_
      go_wp2_with (first
      | (go_at_call 123; refine (byteAt_any _ _ (by omega) (by omega) _).mono ?_; rintro e w' ⟨rfl, rfl⟩)
      | (go_at_call 124; refine (isBlank_any _ _).mono ?_; rintro e w' ⟨rfl, rfl⟩)
      | (go_at_call 125; refine (isLetter_any _ _).mono ?_; rintro e w' ⟨rfl, rfl⟩)
      | (go_at_call 126; refine (isDigit_any _ _).mono ?_; rintro e w' ⟨rfl, rfl⟩)
      | (go_at_call 127; refine (isSign_any _ (by assumption) (by assumption) _).mono ?_; rintro e w' ⟨rfl, rfl⟩)
      | (go_at_call 128; refine (inWord_any _ _).mono ?_; rintro e w' ⟨rfl, rfl⟩))
      go_step3
      exact wrong_lands s B w0 w' _ at_ rfl hbel
    · have hlt : (k : Int) - (at_ : Int) ≤ 32 := by omega
      refine Lands.of rfl ?_
      go_wp2_with (first
      | (go_at_call 123; refine (byteAt_any _ _ (by omega) (by omega) _).mono ?_; rintro e w' ⟨rfl, rfl⟩)
      | (go_at_call 124; refine (isBlank_any _ _).mono ?_; rintro e w' ⟨rfl, rfl⟩)
      | (go_at_call 125; refine (isLetter_any _ _).mono ?_; rintro e w' ⟨rfl, rfl⟩)
      | (go_at_call 126; refine (isDigit_any _ _).mono ?_; rintro e w' ⟨rfl, rfl⟩)
      | (go_at_call 127; refine (isSign_any _ (by assumption) (by assumption) _).mono ?_; rintro e w' ⟨rfl, rfl⟩)
      | (go_at_call 128; refine (inWord_any _ _).mono ?_; rintro e w' ⟨rfl, rfl⟩))
      go_step3
      exact hgood.out (by omega)
  | succ m ih =>
    intro k hk hm hak hl
    intros
    have hin : inW (atI (bs s) k) = true := by
      cases h : inW (atI (bs s) k)
      · have := lenW_stop inW ((bs s).drop k) (by rw [atI_drop]; exact h)
        omega
      · rfl
    have hl1 := (lenW_more inW inW_zero ((bs s).drop k) (by rw [atI_drop]; exact hin)).1
    rw [List.drop_drop] at hl1
    have hl2 : lenW inW ((bs s).drop (k + 1)) = m := by omega
    have hH := Hid.intro hl2
    clear hl hl1 hl2
    refine Lands.of rfl ?_
    go_wp2_with (first
      | (go_at_call 123; refine (byteAt_any _ _ (by omega) (by omega) _).mono ?_; rintro e w' ⟨rfl, rfl⟩)
      | (go_at_call 124; refine (isBlank_any _ _).mono ?_; rintro e w' ⟨rfl, rfl⟩)
      | (go_at_call 125; refine (isLetter_any _ _).mono ?_; rintro e w' ⟨rfl, rfl⟩)
      | (go_at_call 126; refine (isDigit_any _ _).mono ?_; rintro e w' ⟨rfl, rfl⟩)
      | (go_at_call 127; refine (isSign_any _ (by assumption) (by assumption) _).mono ?_; rintro e w' ⟨rfl, rfl⟩)
      | (go_at_call 128; refine (inWord_any _ _).mono ?_; rintro e w' ⟨rfl, rfl⟩))
    go_step3
    exact ih (k + 1) (by omega) (by omega) (by omega) hH.out
end Go.Proofs.YtogkchgjpflmjaaGreatDoor
/- lex.Tokens: the tokens of a text: the contract. -/
namespace Go.Proofs.YtogkchgjpflmjaaGreatDoor
open Go.ChangeShapes Go.WideShapes Go.ChangeAt Go.RowKit
set_option linter.unusedVariables false
set_option maxRecDepth 100000
theorem number_lands (s : ByteArray) (B : Nat) (w0 w : World) (R : Except Nat (List Tok)) (hs : s.size ≤ 1100000) (acc : List Tok) (v : Value) (at_ : Nat)
    (h1 : at_ < s.size) (hd : isDig (atI (bs s) at_) = true ∨ atI (bs s) at_ = 39) (hacc : acc.length ≤ at_) (hown : w.ownsRow B 188 4 v acc.length (rowOf acc)) (hbel : Below B w0 w) (hB : B ≤ w.heap.size)
    (hbad : numL ((bs s).drop at_) = 0 → R = .error at_)
    (hnext : Hid (numL ((bs s).drop at_) ≠ 0 → ∀ (p : Nat), p = at_ + numL ((bs s).drop at_) → ∀ (w' : World) (v' : Value), w'.ownsRow B 188 4 v' (acc.length + 1) (rowOf (acc ++ [{ kind := 2, text := ((bs s).drop at_).take (numL ((bs s).drop at_)), num := numN ((bs s).drop at_), place := at_ }])) → Below B w0 w' → B ≤ w'.heap.size → ∀ {u1 u2 u3 u4 u6 u8 u9 u10 u11 u12 u13 u14 u15 u16 u17 u18 u19 u20 u21 u22 u23 u24 u25 u26 u27 u28 u29 u30 u31 u32 u33 u34 u35 u36 u37 u38 u39 u40 u41 u42 u43 u44 u45 u46 u47 u48 u49 u50 u51 u52 u53 u54 u55 u56 u57 u58 u59 u60 u61 u62 u63 u64 u65 u66 u67 u68 u69 u70 u71 u72 u73 u74 u75 : Value}, Lands Tryz.prog (scopeOf Tryz.f101) (Q9 B w0 R) 0 { tmps := List.toArray (.string s :: u1 :: u2 :: u3 :: u4 :: v' :: u6 :: .int .i64 (p : Int) :: u8 :: u9 :: u10 :: u11 :: u12 :: u13 :: u14 :: u15 :: u16 :: u17 :: u18 :: u19 :: u20 :: u21 :: u22 :: u23 :: u24 :: u25 :: u26 :: u27 :: u28 :: u29 :: u30 :: u31 :: u32 :: u33 :: u34 :: u35 :: u36 :: u37 :: u38 :: u39 :: u40 :: u41 :: u42 :: u43 :: u44 :: u45 :: u46 :: u47 :: u48 :: u49 :: u50 :: u51 :: u52 :: u53 :: u54 :: u55 :: u56 :: u57 :: u58 :: u59 :: u60 :: u61 :: u62 :: u63 :: u64 :: u65 :: u66 :: u67 :: u68 :: u69 :: u70 :: u71 :: u72 :: u73 :: u74 :: u75 :: []), defers := [] } w')) {u1 u2 u3 u4 u6 u8 u10 u11 u12 u13 u14 u15 u16 u17 u18 u19 u20 u21 u22 u23 u24 u25 u26 u27 u28 u29 u30 u31 u32 u33 u34 u35 u36 u37 u38 u39 u40 u41 u42 u43 u44 u45 u46 u47 u48 u49 u50 u51 u52 u53 u54 u55 u56 u57 u58 u59 u60 u61 u62 u63 u64 u65 u66 u67 u68 u69 u70 u71 u72 u73 u74 u75 : Value} :
    Lands Tryz.prog (scopeOf Tryz.f101) (Q9 B w0 R) 2 { tmps := List.toArray (.string s :: u1 :: u2 :: u3 :: u4 :: v :: u6 :: .int .i64 (at_ : Int) :: u8 :: .int .i64 2 :: u10 :: u11 :: u12 :: u13 :: u14 :: u15 :: u16 :: u17 :: u18 :: u19 :: u20 :: u21 :: u22 :: u23 :: u24 :: u25 :: u26 :: u27 :: u28 :: u29 :: u30 :: u31 :: u32 :: u33 :: u34 :: u35 :: u36 :: u37 :: u38 :: u39 :: u40 :: u41 :: u42 :: u43 :: u44 :: u45 :: u46 :: u47 :: u48 :: u49 :: u50 :: u51 :: u52 :: u53 :: u54 :: u55 :: u56 :: u57 :: u58 :: u59 :: u60 :: u61 :: u62 :: u63 :: u64 :: u65 :: u66 :: u67 :: u68 :: u69 :: u70 :: u71 :: u72 :: u73 :: u74 :: u75 :: []), defers := [] } w := by
  by_cases h0 : numL ((bs s).drop at_) = 0
  · have hR := hbad h0
    subst hR
    clear hnext hbad
    refine Lands.of rfl ?_
    go_wp2_with (go_at_call 129; refine (numberAt_any _ _ h1 (by omega) hd _).mono ?_; rintro e w' ⟨rfl, rfl⟩)
    go_step3
    exact wrong_lands s B w0 w' _ at_ rfl hbel
  · have hle := numL_le ((bs s).drop at_)
    rw [List.length_drop, bs_length] at hle
    obtain ⟨k, hk⟩ : ∃ k, k = numL ((bs s).drop at_) := ⟨_, rfl⟩
    obtain ⟨n, hn⟩ : ∃ n, n = numN ((bs s).drop at_) := ⟨_, rfl⟩
    have hcall : ∀ w, Calls Tryz.prog 129 #[.string s, .int .i64 (at_ : Int)] w fun e w' => e = .returned (.tuple #[.int .u32 n, .int .i64 ((at_ : Int) + k)]) ∧ w' = w := by
      intro w
      rw [hk, hn]
      exact numberAt_any _ _ h1 (by omega) hd _
    rw [← hk, ← hn] at hnext
    rw [← hk] at h0 hle
    obtain ⟨T, hT⟩ : ∃ T, T = ((bs s).drop at_).take k := ⟨_, rfl⟩
    have hsl : ∀ W : World, (Instr.slice 9 (.string s) (some (.int .i64 (at_ : Int))) (some (.int .i64 ((at_ : Int) + k))) none).run Tryz.prog W = .ok (.string (str T)) W := fun W => by
      rw [run_slice_string W 9 s .i64 .i64 at_ ((at_ : Int) + k) Tryz.underlying9 (by omega) (by omega) (by omega), Lib.extract_eq, hT]
      simp [str, bs]
      congr 2
      omega
    have hTs : (str T).size ≤ 1100000 := by
      have : (str T).size = T.length := by simp [str, ByteArray.size]
      rw [this, hT, List.length_take, List.length_drop, bs_length]
      omega
    rw [← hT] at hnext
    have he : (((at_ : Int) + k) == (at_ : Int)) = false := by simp; omega
    clear hT hk hn hbad hd
    obtain ⟨i0, hi, hz0, hz1, hz2⟩ := info_parts Tryz.info188
    have hlen : acc.length ≤ 1100000 := by omega
    have hcH := Hid.intro hcall
    clear hcall
    refine Lands.of rfl ?_
    go_wp2_with (go_at_call 129; refine (hcH.out _).mono ?_; rintro e w' ⟨rfl, rfl⟩)
    go_step3
    go_wp2_with (first
      | (go_at_call 39; refine (clone_any _ _ (by omega)).mono ?_; rintro e w' ⟨rfl, hb⟩)
      | (at_builtin; go_must (refine wpList_append_own_wide _ rfl (.tmp 63) (.tmp 73) 182 rfl B 188 i0 (.agg #[.int .i64 0, .string ⟨#[]⟩, .int .u32 0, .int .i64 0]) 4 40 Tryz.underlying182 hi hz0 hz1 hz2 rfl (by decide) v acc.length (rowOf acc) rfl ((ownsRow_below hown hb).alloc _) ⟨_, 0, none⟩ 1 1 [.int .i64 2, .string (str T), .int .u32 n, .int .i64 (at_ : Int)] rfl rfl (cells_new _ _ _) (by simp [Value.oneCell']) (by unfold maxLen; omega) (by omega) (by have := hb.size; simp; omega) ?_; intro v2 w2 hown2 hgrow2 _)))
    go_step3
    have hbs := hb.size
    refine hnext.out h0 (at_ + k) rfl w2 v2 ?_ ?_ ?_
    · rw [rowOf_push]; exact hown2
    · exact ((hbel.trans (hb.mono hB)).alloc (by omega) _).grown hgrow2 (by simp; omega) (fun k hk => (hown.lt k hk).1)
    · have := hgrow2.size; simp at this; omega
end Go.Proofs.YtogkchgjpflmjaaGreatDoor
/- lex.Tokens: the tokens of a text: the contract. -/
namespace Go.Proofs.YtogkchgjpflmjaaGreatDoor
open Go.ChangeShapes Go.WideShapes Go.ChangeAt Go.RowKit
set_option linter.unusedVariables false
set_option maxRecDepth 100000
theorem wp_label_code {P : Program} {c : Code} {l : Nat} {X rest : Code} {Q : Exit → Act → World → Prop} {a : Act} {w : World} (hX : findLabel c l = some (.seq .skip X)) (hf : findLabel c l = some (.seq .skip rest)) (h : rest.wp P Q a w) : X.wp P Q a w := by
  rw [hX] at hf
  cases hf
  exact h
theorem Lands.tail {P : Program} {c : Code} {l : Nat} {X : Code} {Q : Exit → Act → World → Prop} {a : Act} {w : World} (hX : findLabel c l = some (.seq .skip X)) (h : X.wp P (jumps (Lands P c Q) Q) a w) : Lands P c Q l a w :=
  Lands.of hX (wp_seq (wp_skip h))
theorem between_wp (X : Code) (hX : findLabel (scopeOf Tryz.f101) 0 = some (.seq .skip X)) (s : ByteArray) (B : Nat) (w0 : World) (R : Except Nat (List Tok)) (hs : s.size ≤ 1100000) :
    ∀ (m at_ : Nat) (acc : List Tok) (v : Value) (w : World), s.size - at_ = m → at_ ≤ s.size → acc.length ≤ at_ → R = ext acc (scan ((bs s).drop at_) at_) →
    w.ownsRow B 188 4 v acc.length (rowOf acc) → Below B w0 w → B ≤ w.heap.size →
    ∀ {u1 u2 u3 u4 u6 u8 u9 u10 u11 u12 u13 u14 u15 u16 u17 u18 u19 u20 u21 u22 u23 u24 u25 u26 u27 u28 u29 u30 u31 u32 u33 u34 u35 u36 u37 u38 u39 u40 u41 u42 u43 u44 u45 u46 u47 u48 u49 u50 u51 u52 u53 u54 u55 u56 u57 u58 u59 u60 u61 u62 u63 u64 u65 u66 u67 u68 u69 u70 u71 u72 u73 u74 u75 : Value}, Code.wp Tryz.prog X (jumps (Lands Tryz.prog (scopeOf Tryz.f101) (Q9 B w0 R)) (Q9 B w0 R)) { tmps := List.toArray (.string s :: u1 :: u2 :: u3 :: u4 :: v :: u6 :: .int .i64 (at_ : Int) :: u8 :: u9 :: u10 :: u11 :: u12 :: u13 :: u14 :: u15 :: u16 :: u17 :: u18 :: u19 :: u20 :: u21 :: u22 :: u23 :: u24 :: u25 :: u26 :: u27 :: u28 :: u29 :: u30 :: u31 :: u32 :: u33 :: u34 :: u35 :: u36 :: u37 :: u38 :: u39 :: u40 :: u41 :: u42 :: u43 :: u44 :: u45 :: u46 :: u47 :: u48 :: u49 :: u50 :: u51 :: u52 :: u53 :: u54 :: u55 :: u56 :: u57 :: u58 :: u59 :: u60 :: u61 :: u62 :: u63 :: u64 :: u65 :: u66 :: u67 :: u68 :: u69 :: u70 :: u71 :: u72 :: u73 :: u74 :: u75 :: []), defers := [] } w := by
  intro m
  induction m using Nat.strongRecOn with
  | _ m ih0 =>
    have ih : ∀ (m' : Nat), m' < m → ∀ (at_ : Nat) (acc : List Tok) (v : Value) (w : World), s.size - at_ = m' → at_ ≤ s.size → acc.length ≤ at_ → R = ext acc (scan ((bs s).drop at_) at_) →
        w.ownsRow B 188 4 v acc.length (rowOf acc) → Below B w0 w → B ≤ w.heap.size →
        ∀ {u1 u2 u3 u4 u6 u8 u9 u10 u11 u12 u13 u14 u15 u16 u17 u18 u19 u20 u21 u22 u23 u24 u25 u26 u27 u28 u29 u30 u31 u32 u33 u34 u35 u36 u37 u38 u39 u40 u41 u42 u43 u44 u45 u46 u47 u48 u49 u50 u51 u52 u53 u54 u55 u56 u57 u58 u59 u60 u61 u62 u63 u64 u65 u66 u67 u68 u69 u70 u71 u72 u73 u74 u75 : Value}, Lands Tryz.prog (scopeOf Tryz.f101) (Q9 B w0 R) 0 { tmps := List.toArray (.string s :: u1 :: u2 :: u3 :: u4 :: v :: u6 :: .int .i64 (at_ : Int) :: u8 :: u9 :: u10 :: u11 :: u12 :: u13 :: u14 :: u15 :: u16 :: u17 :: u18 :: u19 :: u20 :: u21 :: u22 :: u23 :: u24 :: u25 :: u26 :: u27 :: u28 :: u29 :: u30 :: u31 :: u32 :: u33 :: u34 :: u35 :: u36 :: u37 :: u38 :: u39 :: u40 :: u41 :: u42 :: u43 :: u44 :: u45 :: u46 :: u47 :: u48 :: u49 :: u50 :: u51 :: u52 :: u53 :: u54 :: u55 :: u56 :: u57 :: u58 :: u59 :: u60 :: u61 :: u62 :: u63 :: u64 :: u65 :: u66 :: u67 :: u68 :: u69 :: u70 :: u71 :: u72 :: u73 :: u74 :: u75 :: []), defers := [] } w := by
      intro m' hm' at_ acc v w h1 h2 h3 h4 h5 h6 h7
      intros
      exact Lands.tail hX (ih0 m' hm' at_ acc v w h1 h2 h3 h4 h5 h6 h7)
    clear ih0
    have hXH := Hid.intro hX
    clear hX
    intro at_ acc v w hm hat hacc hR hown hbel hB
    intros
    have hm' := hm.symm
    subst hm'
    by_cases hend : at_ = s.size
    · have hRe : R = .ok acc := by
        rw [hR, scan_end (bs s) at_ (by rw [bs_length]; omega)]
        simp [ext]
      have he : ((at_ : Int) == (s.size : Int)) = true := by simp [hend]
      have hH := Hid.intro hend
      clear ih hR hm hend
      subst hRe
      refine wp_label_code hXH.out rfl ?_
      go_wp2_with (first
      | (go_at_call 123; refine (byteAt_any _ _ (by omega) (by omega) _).mono ?_; rintro e w' ⟨rfl, rfl⟩)
      | (go_at_call 124; refine (isBlank_any _ _).mono ?_; rintro e w' ⟨rfl, rfl⟩)
      | (go_at_call 125; refine (isLetter_any _ _).mono ?_; rintro e w' ⟨rfl, rfl⟩)
      | (go_at_call 126; refine (isDigit_any _ _).mono ?_; rintro e w' ⟨rfl, rfl⟩)
      | (go_at_call 127; refine (isSign_any _ (by assumption) (by assumption) _).mono ?_; rintro e w' ⟨rfl, rfl⟩)
      | (go_at_call 128; refine (inWord_any _ _).mono ?_; rintro e w' ⟨rfl, rfl⟩))
      rw [jumps_ret]
      unfold Q9
      go_ret3
      exact ⟨hbel, v, rfl, hown⟩
    · have hlt : at_ < s.size := by omega
      have hll : at_ < (bs s).length := by rw [bs_length]; exact hlt
      have he : ((at_ : Int) == (s.size : Int)) = false := by simp; omega
      obtain ⟨c, hc⟩ : ∃ c, c = atI (bs s) at_ := ⟨_, rfl⟩
      have c0 : 0 ≤ c := by rw [hc]; exact atI_lo _ _
      have c1 : c ≤ 255 := by rw [hc]; exact atI_hi _ _
      have hc' := hc.symm
      have hr0 : atI ((bs s).drop at_) 0 = c := by rw [atI_drop, Nat.add_zero]; exact hc'
      have hnextA : c ≠ 59 → isBl c = false → ∀ (kind n : Int) (k : Nat), tokAt ((bs s).drop at_) = some (kind, n, k) → ∀ (p : Nat), p = at_ + k → ∀ (w' : World) (v' : Value),
          w'.ownsRow B 188 4 v' (acc.length + 1) (rowOf (acc ++ [{ kind := kind, text := ((bs s).drop at_).take k, num := n, place := at_ }])) → Below B w0 w' → B ≤ w'.heap.size →
          ∀ {u1 u2 u3 u4 u6 u8 u9 u10 u11 u12 u13 u14 u15 u16 u17 u18 u19 u20 u21 u22 u23 u24 u25 u26 u27 u28 u29 u30 u31 u32 u33 u34 u35 u36 u37 u38 u39 u40 u41 u42 u43 u44 u45 u46 u47 u48 u49 u50 u51 u52 u53 u54 u55 u56 u57 u58 u59 u60 u61 u62 u63 u64 u65 u66 u67 u68 u69 u70 u71 u72 u73 u74 u75 : Value}, Lands Tryz.prog (scopeOf Tryz.f101) (Q9 B w0 R) 0 { tmps := List.toArray (.string s :: u1 :: u2 :: u3 :: u4 :: v' :: u6 :: .int .i64 (p : Int) :: u8 :: u9 :: u10 :: u11 :: u12 :: u13 :: u14 :: u15 :: u16 :: u17 :: u18 :: u19 :: u20 :: u21 :: u22 :: u23 :: u24 :: u25 :: u26 :: u27 :: u28 :: u29 :: u30 :: u31 :: u32 :: u33 :: u34 :: u35 :: u36 :: u37 :: u38 :: u39 :: u40 :: u41 :: u42 :: u43 :: u44 :: u45 :: u46 :: u47 :: u48 :: u49 :: u50 :: u51 :: u52 :: u53 :: u54 :: u55 :: u56 :: u57 :: u58 :: u59 :: u60 :: u61 :: u62 :: u63 :: u64 :: u65 :: u66 :: u67 :: u68 :: u69 :: u70 :: u71 :: u72 :: u73 :: u74 :: u75 :: []), defers := [] } w' := by
        intro h59 hbl kind n k hta p hp w' v' ho hb' hB'
        have hk := tokAt_some _ _ _ _ hta
        rw [List.length_drop, bs_length] at hk
        have hR2 : R = ext (acc ++ [{ kind := kind, text := ((bs s).drop at_).take k, num := n, place := at_ }]) (scan ((bs s).drop p) p) := by
          rw [hR, scan_tok (bs s) at_ hll (by rw [hc']; exact h59) (by rw [hc']; exact hbl) _ _ _ hta, ext_ext, hp]
        have hl : (acc ++ [({ kind := kind, text := ((bs s).drop at_).take k, num := n, place := at_ } : Tok)]).length = acc.length + 1 := by simp
        rw [← hl] at ho
        intros
        exact ih (s.size - p) (by omega) p _ v' w' rfl (by omega) (by rw [hl]; omega) hR2 ho hb' hB'
      have hwrongA : c ≠ 59 → isBl c = false → tokAt ((bs s).drop at_) = none → R = .error at_ := by
        intro h59 hbl hta
        rw [hR, scan_wrong (bs s) at_ hll (by rw [hc']; exact h59) (by rw [hc']; exact hbl) hta]
        rfl
      by_cases h59 : c = 59
      · have hRe : R = .ok acc := by
          rw [hR, scan_remark (bs s) at_ hll (by rw [hc', h59])]
          simp [ext]
        have h59' : (c == 59) = true := by simp [h59]
        clear ih hR hm hc hr0 h59 hend hnextA hwrongA
        subst hRe
        refine wp_label_code hXH.out rfl ?_
        go_wp2_with (first
      | (go_at_call 123; refine (byteAt_any _ _ (by omega) (by omega) _).mono ?_; rintro e w' ⟨rfl, rfl⟩)
      | (go_at_call 124; refine (isBlank_any _ _).mono ?_; rintro e w' ⟨rfl, rfl⟩)
      | (go_at_call 125; refine (isLetter_any _ _).mono ?_; rintro e w' ⟨rfl, rfl⟩)
      | (go_at_call 126; refine (isDigit_any _ _).mono ?_; rintro e w' ⟨rfl, rfl⟩)
      | (go_at_call 127; refine (isSign_any _ (by assumption) (by assumption) _).mono ?_; rintro e w' ⟨rfl, rfl⟩)
      | (go_at_call 128; refine (inWord_any _ _).mono ?_; rintro e w' ⟨rfl, rfl⟩))
        rw [jumps_ret]
        unfold Q9
        go_ret3
        exact ⟨hbel, v, rfl, hown⟩
      · have h59' : (c == 59) = false := by simp [h59]
        cases hbl : isBl c
        · have hnext := Hid.intro (hnextA h59 hbl)
          have hwrong := Hid.intro (hwrongA h59 hbl)
          have hr0H := Hid.intro hr0
          have hcH := Hid.intro h59
          clear hnextA hwrongA ih hm hR hc hr0 h59 hend
          cases hle : isLet c
          · have hnum : Hid ((isDig c = true ∨ c = 39) → ∀ {u1 u2 u3 u4 u6 u8 u10 u11 u12 u13 u14 u15 u16 u17 u18 u19 u20 u21 u22 u23 u24 u25 u26 u27 u28 u29 u30 u31 u32 u33 u34 u35 u36 u37 u38 u39 u40 u41 u42 u43 u44 u45 u46 u47 u48 u49 u50 u51 u52 u53 u54 u55 u56 u57 u58 u59 u60 u61 u62 u63 u64 u65 u66 u67 u68 u69 u70 u71 u72 u73 u74 u75 : Value}, Lands Tryz.prog (scopeOf Tryz.f101) (Q9 B w0 R) 2 { tmps := List.toArray (.string s :: u1 :: u2 :: u3 :: u4 :: v :: u6 :: .int .i64 (at_ : Int) :: u8 :: .int .i64 2 :: u10 :: u11 :: u12 :: u13 :: u14 :: u15 :: u16 :: u17 :: u18 :: u19 :: u20 :: u21 :: u22 :: u23 :: u24 :: u25 :: u26 :: u27 :: u28 :: u29 :: u30 :: u31 :: u32 :: u33 :: u34 :: u35 :: u36 :: u37 :: u38 :: u39 :: u40 :: u41 :: u42 :: u43 :: u44 :: u45 :: u46 :: u47 :: u48 :: u49 :: u50 :: u51 :: u52 :: u53 :: u54 :: u55 :: u56 :: u57 :: u58 :: u59 :: u60 :: u61 :: u62 :: u63 :: u64 :: u65 :: u66 :: u67 :: u68 :: u69 :: u70 :: u71 :: u72 :: u73 :: u74 :: u75 :: []), defers := [] } w) := by
              intro hd
              have hta : tokAt ((bs s).drop at_) = if numL ((bs s).drop at_) = 0 then none else some (2, numN ((bs s).drop at_), numL ((bs s).drop at_)) := by
                unfold tokAt; rw [hr0H.out, if_neg (by rw [hle]; simp), if_pos hd]
              intros
              exact number_lands s B w0 w R hs acc v at_ hlt (by rw [hc']; exact hd) hacc hown hbel hB
                (fun h0 => hwrong.out (by rw [hta, if_pos h0]))
                (fun h0 p hp w' v' ho hb' hB' => hnext.out _ _ _ (by rw [hta, if_neg h0]) p hp w' v' ho hb' hB')
            cases hdi : isDig c
            · by_cases hq : c = 39
              · have hq' : (c == 39) = true := by simp [hq]
                have hqH := Hid.intro hq
                clear hq
                refine wp_label_code hXH.out rfl ?_
                go_wp2_with (first
      | (go_at_call 123; refine (byteAt_any _ _ (by omega) (by omega) _).mono ?_; rintro e w' ⟨rfl, rfl⟩)
      | (go_at_call 124; refine (isBlank_any _ _).mono ?_; rintro e w' ⟨rfl, rfl⟩)
      | (go_at_call 125; refine (isLetter_any _ _).mono ?_; rintro e w' ⟨rfl, rfl⟩)
      | (go_at_call 126; refine (isDigit_any _ _).mono ?_; rintro e w' ⟨rfl, rfl⟩)
      | (go_at_call 127; refine (isSign_any _ (by assumption) (by assumption) _).mono ?_; rintro e w' ⟨rfl, rfl⟩)
      | (go_at_call 128; refine (inWord_any _ _).mono ?_; rintro e w' ⟨rfl, rfl⟩))
                go_step3
                exact hnum.out (Or.inr hqH.out)
              · have hq' : (c == 39) = false := by simp [hq]
                have hqH := Hid.intro hq
                clear hq
                have hta : tokAt ((bs s).drop at_) = if isSg c = true then some (3, 0, 1) else none := by
                  unfold tokAt; rw [hr0H.out, if_neg (by rw [hle]; simp), if_neg (by rw [hdi]; simp; exact hqH.out)]
                have htaH := Hid.intro hta
                clear hta hnum
                cases hsg : isSg c
                · have hRe := hwrong.out (by rw [htaH.out, hsg]; simp)
                  clear hwrong hnext htaH
                  subst hRe
                  refine wp_label_code hXH.out rfl ?_
                  go_wp2_with (first
      | (go_at_call 123; refine (byteAt_any _ _ (by omega) (by omega) _).mono ?_; rintro e w' ⟨rfl, rfl⟩)
      | (go_at_call 124; refine (isBlank_any _ _).mono ?_; rintro e w' ⟨rfl, rfl⟩)
      | (go_at_call 125; refine (isLetter_any _ _).mono ?_; rintro e w' ⟨rfl, rfl⟩)
      | (go_at_call 126; refine (isDigit_any _ _).mono ?_; rintro e w' ⟨rfl, rfl⟩)
      | (go_at_call 127; refine (isSign_any _ (by assumption) (by assumption) _).mono ?_; rintro e w' ⟨rfl, rfl⟩)
      | (go_at_call 128; refine (inWord_any _ _).mono ?_; rintro e w' ⟨rfl, rfl⟩))
                  go_step3
                  go_wp2
                  rw [jumps_ret]
                  unfold Q9
                  go_ret3
                  exact ⟨hbel, rfl⟩
                · refine wp_label_code hXH.out rfl ?_
                  go_wp2_with (first
      | (go_at_call 123; refine (byteAt_any _ _ (by omega) (by omega) _).mono ?_; rintro e w' ⟨rfl, rfl⟩)
      | (go_at_call 124; refine (isBlank_any _ _).mono ?_; rintro e w' ⟨rfl, rfl⟩)
      | (go_at_call 125; refine (isLetter_any _ _).mono ?_; rintro e w' ⟨rfl, rfl⟩)
      | (go_at_call 126; refine (isDigit_any _ _).mono ?_; rintro e w' ⟨rfl, rfl⟩)
      | (go_at_call 127; refine (isSign_any _ (by assumption) (by assumption) _).mono ?_; rintro e w' ⟨rfl, rfl⟩)
      | (go_at_call 128; refine (inWord_any _ _).mono ?_; rintro e w' ⟨rfl, rfl⟩))
                  go_step3
                  exact whole_lands s B w0 _ R hs acc v 0 _ 3 at_ (at_ + 1) (by omega) (by omega) (by omega) hacc hown hbel hB (fun w' v' ho hb' hB' => hnext.out 3 0 1 (by rw [htaH.out, hsg]; simp) (at_ + 1) rfl w' v' (by rw [show at_ + 1 - at_ = 1 by omega] at ho; exact ho) hb' hB')
            · have hd2 : isDig c = true := hdi
              refine wp_label_code hXH.out rfl ?_
              go_wp2_with (first
      | (go_at_call 123; refine (byteAt_any _ _ (by omega) (by omega) _).mono ?_; rintro e w' ⟨rfl, rfl⟩)
      | (go_at_call 124; refine (isBlank_any _ _).mono ?_; rintro e w' ⟨rfl, rfl⟩)
      | (go_at_call 125; refine (isLetter_any _ _).mono ?_; rintro e w' ⟨rfl, rfl⟩)
      | (go_at_call 126; refine (isDigit_any _ _).mono ?_; rintro e w' ⟨rfl, rfl⟩)
      | (go_at_call 127; refine (isSign_any _ (by assumption) (by assumption) _).mono ?_; rintro e w' ⟨rfl, rfl⟩)
      | (go_at_call 128; refine (inWord_any _ _).mono ?_; rintro e w' ⟨rfl, rfl⟩))
              go_step3
              exact hnum.out (Or.inl (by assumption))
          · have hta : tokAt ((bs s).drop at_) = if lenW inW ((bs s).drop at_) ≤ 32 then some (1, 0, lenW inW ((bs s).drop at_)) else none := by
              unfold tokAt; rw [hr0H.out, if_pos hle]
            obtain ⟨hl1, hl2⟩ := lenW_more inW inW_zero ((bs s).drop at_) (by rw [hr0H.out]; exact inW_of_let _ hle)
            rw [List.drop_drop] at hl1
            have hl3 := lenW_le inW ((bs s).drop at_)
            rw [List.length_drop, bs_length] at hl3
            obtain ⟨L, hL⟩ : ∃ L, L = lenW inW ((bs s).drop at_) := ⟨_, rfl⟩
            rw [← hL] at hta hl1 hl3
            have hl4 : lenW inW ((bs s).drop (at_ + 1)) = L - 1 := by omega
            have hL1 : 1 ≤ L := by omega
            have htaH := Hid.intro hta
            have hl4H := Hid.intro hl4
            clear hta hl1 hl2 hL hl4
            refine wp_label_code hXH.out rfl ?_
            go_wp2_with (first
      | (go_at_call 123; refine (byteAt_any _ _ (by omega) (by omega) _).mono ?_; rintro e w' ⟨rfl, rfl⟩)
      | (go_at_call 124; refine (isBlank_any _ _).mono ?_; rintro e w' ⟨rfl, rfl⟩)
      | (go_at_call 125; refine (isLetter_any _ _).mono ?_; rintro e w' ⟨rfl, rfl⟩)
      | (go_at_call 126; refine (isDigit_any _ _).mono ?_; rintro e w' ⟨rfl, rfl⟩)
      | (go_at_call 127; refine (isSign_any _ (by assumption) (by assumption) _).mono ?_; rintro e w' ⟨rfl, rfl⟩)
      | (go_at_call 128; refine (inWord_any _ _).mono ?_; rintro e w' ⟨rfl, rfl⟩))
            go_step3
            refine name_lands s B w0 _ R hs v 0 1 at_ (at_ + L) (by omega) (by omega) hbel ?_ ?_ (L - 1) (at_ + 1) (by have := hl4H.out; omega) (by have := hl4H.out; omega) (by omega) hl4H.out
            · intro h32
              intros
              exact whole_lands s B w0 _ R hs acc v 0 _ 1 at_ (at_ + L) rfl (by omega) (by omega) hacc hown hbel hB (fun w' v' ho hb' hB' => hnext.out 1 0 L (by rw [htaH.out, if_pos (by omega)]) (at_ + L) rfl w' v' (by rw [show at_ + L - at_ = L by omega] at ho; exact ho) hb' hB')
            · intro h32
              exact hwrong.out (by rw [htaH.out, if_neg (by omega)])
        · have hRe : R = ext acc (scan ((bs s).drop (at_ + 1)) (at_ + 1)) := by rw [hR, scan_blank (bs s) at_ hll (by rw [hc']; exact hbl)]
          have hH := Hid.intro hRe
          clear hR hRe hc hr0 h59 hm hend hnextA hwrongA
          refine wp_label_code hXH.out rfl ?_
          go_wp2_with (first
      | (go_at_call 123; refine (byteAt_any _ _ (by omega) (by omega) _).mono ?_; rintro e w' ⟨rfl, rfl⟩)
      | (go_at_call 124; refine (isBlank_any _ _).mono ?_; rintro e w' ⟨rfl, rfl⟩)
      | (go_at_call 125; refine (isLetter_any _ _).mono ?_; rintro e w' ⟨rfl, rfl⟩)
      | (go_at_call 126; refine (isDigit_any _ _).mono ?_; rintro e w' ⟨rfl, rfl⟩)
      | (go_at_call 127; refine (isSign_any _ (by assumption) (by assumption) _).mono ?_; rintro e w' ⟨rfl, rfl⟩)
      | (go_at_call 128; refine (inWord_any _ _).mono ?_; rintro e w' ⟨rfl, rfl⟩))
          go_step3
          exact ih (s.size - (at_ + 1)) (by omega) (at_ + 1) acc v _ rfl (by omega) (by omega) hH.out hown hbel hB
theorem tokens_any (s : ByteArray) (hs : s.size ≤ 1100000) (w : World) :
    Calls Tryz.prog 101 #[.string s] w fun e w' => Out w.heap.size w (scan (bs s) 0) e w' := by
  obtain ⟨R, hR⟩ : ∃ R, R = scan (bs s) 0 := ⟨_, rfl⟩
  rw [← hR]
  have hH := Hid.intro hR
  clear hR
  have hcal : Below w.heap.size w w := Below.refl _ _
  have hnil : w.ownsRow w.heap.size 188 4 (.slice none 0 0) ([] : List Tok).length (rowOf []) := World.ownsRow_nil _ _ _ _
  go_enter Tryz.func101, Tryz.ntmps101
  go_wp2
  refine wp_scope_at (Q := Q9 w.heap.size w R) Tryz.f101 rfl ?_
  go_wp2
  go_step3
  rename_i K hK
  exact hK _ _ (between_wp _ rfl s w.heap.size w R hs (s.size - 0) 0 [] _ w rfl (by omega) (by simp) (by rw [List.drop_zero, ext_nil]; exact hH.out) hnil hcal (Nat.le_refl _))
end Go.Proofs.YtogkchgjpflmjaaGreatDoor
namespace Go.Proofs.YtogkchgjpflmjaaGreatDoor
open Go.ChangeShapes Go.WideShapes Go.ChangeAt Go.RowKit
set_option linter.unusedVariables false
set_option maxRecDepth 100000
theorem rowOf_get (ts : List Tok) (i f : Nat) (t : Tok) (hi : ts[i]? = some t) (hf : f < 4) : (rowOf ts)[i * 4 + f]? = t.cells[f]? := by
  induction ts generalizing i with
  | nil => simp at hi
  | cons x ts ih =>
    have hx : rowOf (x :: ts) = x.cells ++ rowOf ts := by simp [rowOf]
    have hl : x.cells.length = 4 := rfl
    rw [hx]
    cases i with
    | zero =>
      simp at hi
      subst hi
      rw [Nat.zero_mul, Nat.zero_add, List.getElem?_append_left (by omega)]
    | succ i =>
      simp at hi
      rw [List.getElem?_append_right (by omega), hl, show (i + 1) * 4 + f - 4 = i * 4 + f by omega]
      exact ih i hi
structure TokAt (w : World) (g i : Nat) (t : Tok) : Prop where
  kind : w.cell? ⟨g, i * 4, none⟩ = some (.int .i64 t.kind)
  text : w.cell? ⟨g, i * 4 + 1, none⟩ = some (.string (str t.text))
  num : w.cell? ⟨g, i * 4 + 2, none⟩ = some (.int .u32 t.num)
  place : w.cell? ⟨g, i * 4 + 3, none⟩ = some (.int .i64 (t.place : Int))
theorem rowOf_length (ts : List Tok) : (rowOf ts).length = ts.length * 4 := by
  induction ts with
  | nil => rfl
  | cons x ts ih =>
    have hx : rowOf (x :: ts) = x.cells ++ rowOf ts := by simp [rowOf]
    have hl : x.cells.length = 4 := rfl
    rw [hx, List.length_append, ih, hl, List.length_cons]
    omega
theorem tok_at {w : World} {B g n cap : Nat} {T : TypeId} {ts : List Tok} (h : w.ownsRow B T 4 (.slice (some ⟨g, 0, none⟩) n cap) n (rowOf ts)) (i : Nat) (t : Tok) (hi : ts[i]? = some t) : TokAt w g i t := by
  have hl := h.1
  rw [rowOf_length] at hl
  have hlt : i < ts.length := by
    apply Decidable.byContradiction
    intro hn
    rw [List.getElem?_eq_none (by omega)] at hi
    cases hi
  have key : ∀ f, f < 4 → w.cell? ⟨g, i * 4 + f, none⟩ = t.cells[f]? := fun f hf => by rw [h.cellAt _ (by omega), rowOf_get ts i f t hi hf]
  exact ⟨key 0 (by omega), key 1 (by omega), key 2 (by omega), key 3 (by omega)⟩
theorem TokAt.below {w w' : World} {g i : Nat} {t : Tok} {B : Nat} (h : TokAt w g i t) (hb : Below B w w') (hg : g < B) : TokAt w' g i t :=
  ⟨by rw [hb.cell (p := ⟨g, i * 4, none⟩) hg]; exact h.kind, by rw [hb.cell (p := ⟨g, i * 4 + 1, none⟩) hg]; exact h.text, by rw [hb.cell (p := ⟨g, i * 4 + 2, none⟩) hg]; exact h.num, by rw [hb.cell (p := ⟨g, i * 4 + 3, none⟩) hg]; exact h.place⟩
theorem tokens_ok (s : ByteArray) (hs : s.size ≤ 1100000) (ts : List Tok) (h : scan (bs s) 0 = .ok ts) (w : World) :
    Calls Tryz.prog 101 #[.string s] w fun e w' => Below w.heap.size w w' ∧ ∃ v, e = .returned (.tuple #[v, .int .i64 0, .int .i64 0]) ∧ w'.ownsRow w.heap.size 188 4 v ts.length (rowOf ts) := by
  have := tokens_any s hs w
  rw [h] at this
  exact this
theorem tokens_bad (s : ByteArray) (hs : s.size ≤ 1100000) (p : Nat) (h : scan (bs s) 0 = .error p) (w : World) :
    Calls Tryz.prog 101 #[.string s] w fun e w' => Below w.heap.size w w' ∧ e = .returned (.tuple #[.slice none 0 0, .int .i64 (p : Int), .int .i64 20]) := by
  have := tokens_any s hs w
  rw [h] at this
  exact this
theorem own_form {w : World} {B n : Nat} {T : TypeId} {v : Value} {xs : List Value} (h : w.ownsRow B T 4 v (n + 1) xs) : ∃ g cap, v = .slice (some ⟨g, 0, none⟩) (n + 1) cap ∧ B ≤ g ∧ g < w.heap.size := by
  obtain ⟨hl, ⟨_, h0⟩ | ⟨g, cap, cur, hv, hbg, hg, r⟩⟩ := h
  · omega
  · refine ⟨g, cap, hv, hbg, ?_⟩
    apply Decidable.byContradiction
    intro hn
    rw [Array.getElem?_eq_none (by omega)] at hg
    cases hg
theorem str_toList (l : List UInt8) : (str l).toList = l := by
  rw [Lib.toList_data]
  rfl
end Go.Proofs.YtogkchgjpflmjaaGreatDoor
