/- lex.numberAt: the contract. -/
import Derived.Test.YtmndccbeddaphaaGreatDoorSpec2
/- lex.numberAt: the number at a place, and the place behind it. -/
namespace Go.Proofs.YtmndccbeddaphaaGreatDoor
open Go.ChangeShapes Go.WideShapes Go.ChangeAt Go.RowKit
set_option linter.unusedVariables false
set_option maxRecDepth 100000

theorem Hid.intro {p : Prop} (h : p) : Hid p := h
def Q28 (N T : Int) (w : World) : Exit → Act → World → Prop := bodyPost Tryz.prog Tryz.f154 fun e w' => e = .returned (.tuple #[.int .u32 N, .int .i64 T]) ∧ w' = w

theorem byteAt_int (s : ByteArray) (z : Int) (h0 : 0 ≤ z) (hk : z ≤ 4611686018427387904) (hs : s.size ≤ 4611686018427387904) (w : World) :
    Calls Tryz.prog 148 #[.string s, .int .i64 z] w fun e w' => e = .returned (.int .u8 (atI (bs s) z.toNat)) ∧ w' = w := by
  obtain ⟨k, rfl⟩ := Int.eq_ofNat_of_zero_le h0
  exact byteAt_any s k (by omega) hs w

theorem none_lands (s : ByteArray) (at_ : Nat) (N T : Int) (w : World) (hN : N = 0) (hT : T = at_) {u2 u3 u4 u5 u6 u7 u8 u9 u10 u11 u12 u13 u14 u15 u16 u17 u18 u19 u20 u21 u22 u23 u24 u25 u26 u27 u28 u29 u30 u31 u32 u33 u34 u35 u36 u37 u38 u39 u40 u41 u42 u43 u44 u45 u46 u47 u48 u49 u50 u51 u52 u53 u54 u55 u56 u57 u58 u59 u60 u61 u62 u63 u64 u65 u66 u67 u68 u69 u70 u71 u72 u73 u74 u75 u76 u77 u78 u79 u80 u81 u82 u83 u84 u85 u86 u87 u88 u89 u90 u91 u92 u93 u94 u95 u96 u97 u98 u99 : Value} :
    Lands Tryz.prog (scopeOf Tryz.f154) (Q28 N T w) 3 { tmps := List.toArray (.string s :: .int .i64 (at_ : Int) :: u2 :: u3 :: u4 :: u5 :: u6 :: u7 :: u8 :: u9 :: u10 :: u11 :: u12 :: u13 :: u14 :: u15 :: u16 :: u17 :: u18 :: u19 :: u20 :: u21 :: u22 :: u23 :: u24 :: u25 :: u26 :: u27 :: u28 :: u29 :: u30 :: u31 :: u32 :: u33 :: u34 :: u35 :: u36 :: u37 :: u38 :: u39 :: u40 :: u41 :: u42 :: u43 :: u44 :: u45 :: u46 :: u47 :: u48 :: u49 :: u50 :: u51 :: u52 :: u53 :: u54 :: u55 :: u56 :: u57 :: u58 :: u59 :: u60 :: u61 :: u62 :: u63 :: u64 :: u65 :: u66 :: u67 :: u68 :: u69 :: u70 :: u71 :: u72 :: u73 :: u74 :: u75 :: u76 :: u77 :: u78 :: u79 :: u80 :: u81 :: u82 :: u83 :: u84 :: u85 :: u86 :: u87 :: u88 :: u89 :: u90 :: u91 :: u92 :: u93 :: u94 :: u95 :: u96 :: u97 :: u98 :: u99 :: []), defers := [] } w := by
  subst hN hT
  refine Lands.of rfl ?_
  go_wp2
  rw [jumps_ret]
  unfold Q28
  go_ret2
  exact ⟨rfl, rfl⟩

theorem behind_lands (s : ByteArray) (at_ k : Nat) (n to_ N T : Int) (w : World) (hk : to_ = k) (ht : to_ ≤ 4611686018427387904) (hs : s.size ≤ 4611686018427387904) (n0 : 0 ≤ n) (n1 : n ≤ 4294967295)
    (hR : Res N T at_ (inW (atI (bs s) k) = true) n k) {u2 u3 u4 u5 u8 u9 u10 u11 u12 u13 u14 u15 u16 u17 u18 u19 u20 u21 u22 u23 u24 u25 u26 u27 u28 u29 u30 u31 u32 u33 u34 u35 u36 u37 u38 u39 u40 u41 u42 u43 u44 u45 u46 u47 u48 u49 u50 u51 u52 u53 u54 u55 u56 u57 u58 u59 u60 u61 u62 u63 u64 u65 u66 u67 u68 u69 u70 u71 u72 u73 u74 u75 u76 u77 u78 u79 u80 u81 u82 u83 u84 u85 u86 u87 u88 u89 u90 u91 u92 u93 u94 u95 u96 u97 u98 u99 : Value} :
    Lands Tryz.prog (scopeOf Tryz.f154) (Q28 N T w) 2 { tmps := List.toArray (.string s :: .int .i64 (at_ : Int) :: u2 :: u3 :: u4 :: u5 :: .int .u64 n :: .int .i64 to_ :: u8 :: u9 :: u10 :: u11 :: u12 :: u13 :: u14 :: u15 :: u16 :: u17 :: u18 :: u19 :: u20 :: u21 :: u22 :: u23 :: u24 :: u25 :: u26 :: u27 :: u28 :: u29 :: u30 :: u31 :: u32 :: u33 :: u34 :: u35 :: u36 :: u37 :: u38 :: u39 :: u40 :: u41 :: u42 :: u43 :: u44 :: u45 :: u46 :: u47 :: u48 :: u49 :: u50 :: u51 :: u52 :: u53 :: u54 :: u55 :: u56 :: u57 :: u58 :: u59 :: u60 :: u61 :: u62 :: u63 :: u64 :: u65 :: u66 :: u67 :: u68 :: u69 :: u70 :: u71 :: u72 :: u73 :: u74 :: u75 :: u76 :: u77 :: u78 :: u79 :: u80 :: u81 :: u82 :: u83 :: u84 :: u85 :: u86 :: u87 :: u88 :: u89 :: u90 :: u91 :: u92 :: u93 :: u94 :: u95 :: u96 :: u97 :: u98 :: u99 :: []), defers := [] } w := by
  have htn : to_.toNat = k := by omega
  have ht0 : 0 ≤ to_ := by omega
  rw [← htn] at hR
  cases hin : inW (atI (bs s) to_.toNat)
  · obtain ⟨hN, hT0⟩ := hR.good (by rw [hin]; simp)
    have hT : T = to_ := by omega
    clear hR htn hk hT0
    subst hN hT
    refine Lands.of rfl ?_
    go_wp2_with (first
      | (go_at_call 148; refine (byteAt_int _ _ (by omega) (by omega) (by assumption) _).mono ?_; rintro e w' ⟨rfl, rfl⟩)
      | (go_at_call 153; refine (inWord_any _ _).mono ?_; rintro e w' ⟨rfl, rfl⟩)
      | (go_at_call 151; refine (isDigit_any _ _).mono ?_; rintro e w' ⟨rfl, rfl⟩)
      | (go_at_call 179; refine (isHexDigit_any _ _).mono ?_; rintro e w' ⟨rfl, rfl⟩)
      | (go_at_call 180; refine (isQuotable_any _ _).mono ?_; rintro e w' ⟨rfl, rfl⟩)
      | (go_at_call 156; refine (digit_any _ (by assumption) _).mono ?_; rintro e w' ⟨rfl, rfl⟩))
    rw [jumps_ret]
    unfold Q28
    go_ret2
    exact ⟨rfl, rfl⟩
  · obtain ⟨hN, hT⟩ := hR.bad hin
    clear hR htn hk
    refine Lands.of rfl ?_
    go_wp2_with (first
      | (go_at_call 148; refine (byteAt_int _ _ (by omega) (by omega) (by assumption) _).mono ?_; rintro e w' ⟨rfl, rfl⟩)
      | (go_at_call 153; refine (inWord_any _ _).mono ?_; rintro e w' ⟨rfl, rfl⟩)
      | (go_at_call 151; refine (isDigit_any _ _).mono ?_; rintro e w' ⟨rfl, rfl⟩)
      | (go_at_call 179; refine (isHexDigit_any _ _).mono ?_; rintro e w' ⟨rfl, rfl⟩)
      | (go_at_call 180; refine (isQuotable_any _ _).mono ?_; rintro e w' ⟨rfl, rfl⟩)
      | (go_at_call 156; refine (digit_any _ (by assumption) _).mono ?_; rintro e w' ⟨rfl, rfl⟩))
    go_step3
    exact none_lands s at_ _ _ _ hN hT

theorem dec_lands (s : ByteArray) (at_ : Nat) (N T : Int) (w : World) (hs : s.size ≤ 4611686018427387800) :
    ∀ (m k : Nat) (to_ n : Int), to_ = k → k ≤ s.size → lenW isDig ((bs s).drop k) = m → 0 ≤ n → n ≤ 4294967295 →
    Res N T at_ (4294967295 < val 10 n (((bs s).drop k).take m) ∨ inW (atI (bs s) (k + m)) = true) (val 10 n (((bs s).drop k).take m)) (k + m) →
    ∀ {u2 u3 u4 u5 u8 u9 u10 u11 u12 u13 u14 u15 u16 u17 u18 u19 u20 u21 u22 u23 u24 u25 u26 u27 u28 u29 u30 u31 u32 u33 u34 u35 u36 u37 u38 u39 u40 u41 u42 u43 u44 u45 u46 u47 u48 u49 u50 u51 u52 u53 u54 u55 u56 u57 u58 u59 u60 u61 u62 u63 u64 u65 u66 u67 u68 u69 u70 u71 u72 u73 u74 u75 u76 u77 u78 u79 u80 u81 u82 u83 u84 u85 u86 u87 u88 u89 u90 u91 u92 u93 u94 u95 u96 u97 u98 u99 : Value}, Lands Tryz.prog (scopeOf Tryz.f154) (Q28 N T w) 4 { tmps := List.toArray (.string s :: .int .i64 (at_ : Int) :: u2 :: u3 :: u4 :: u5 :: .int .u64 n :: .int .i64 to_ :: u8 :: u9 :: u10 :: u11 :: u12 :: u13 :: u14 :: u15 :: u16 :: u17 :: u18 :: u19 :: u20 :: u21 :: u22 :: u23 :: u24 :: u25 :: u26 :: u27 :: u28 :: u29 :: u30 :: u31 :: u32 :: u33 :: u34 :: u35 :: u36 :: u37 :: u38 :: u39 :: u40 :: u41 :: u42 :: u43 :: u44 :: u45 :: u46 :: u47 :: u48 :: u49 :: u50 :: u51 :: u52 :: u53 :: u54 :: u55 :: u56 :: u57 :: u58 :: u59 :: u60 :: u61 :: u62 :: u63 :: u64 :: u65 :: u66 :: u67 :: u68 :: u69 :: u70 :: u71 :: u72 :: u73 :: u74 :: u75 :: u76 :: u77 :: u78 :: u79 :: u80 :: u81 :: u82 :: u83 :: u84 :: u85 :: u86 :: u87 :: u88 :: u89 :: u90 :: u91 :: u92 :: u93 :: u94 :: u95 :: u96 :: u97 :: u98 :: u99 :: []), defers := [] } w := by
  intro m
  induction m with
  | zero =>
    intro k to_ n hk hks hm n0 n1 hR
    intros
    have ht : to_.toNat = k := by omega
    have hd : isDig (atI (bs s) to_.toNat) = false := by
      cases h : isDig (atI (bs s) to_.toNat)
      · rfl
      · rw [ht] at h
        have := (lenW_more isDig isDig_zero ((bs s).drop k) (by rw [atI_drop]; exact h)).1
        omega
    have hs2 : s.size ≤ 4611686018427387904 := by omega
    rw [List.take_zero, val_nil, Nat.add_zero] at hR
    have hR2 := Hid.intro (hR.turn (bad' := inW (atI (bs s) k) = true) ⟨fun h => Or.inr h, fun h => h.resolve_left (by omega)⟩ rfl rfl)
    have h0 : 0 ≤ to_ := by omega
    have h1 : to_ ≤ 4611686018427387850 := by omega
    have hH := Hid.intro hk
    clear hR hm ht hk
    refine Lands.of rfl ?_
    go_wp2_with (first
      | (go_at_call 148; refine (byteAt_int _ _ (by omega) (by omega) (by assumption) _).mono ?_; rintro e w' ⟨rfl, rfl⟩)
      | (go_at_call 153; refine (inWord_any _ _).mono ?_; rintro e w' ⟨rfl, rfl⟩)
      | (go_at_call 151; refine (isDigit_any _ _).mono ?_; rintro e w' ⟨rfl, rfl⟩)
      | (go_at_call 179; refine (isHexDigit_any _ _).mono ?_; rintro e w' ⟨rfl, rfl⟩)
      | (go_at_call 180; refine (isQuotable_any _ _).mono ?_; rintro e w' ⟨rfl, rfl⟩)
      | (go_at_call 156; refine (digit_any _ (by assumption) _).mono ?_; rintro e w' ⟨rfl, rfl⟩))
    go_step3
    exact behind_lands s at_ k n to_ N T _ hH.out (by omega) hs2 n0 n1 hR2.out
  | succ m ih =>
    intro k to_ n hk hks hm n0 n1 hR
    intros
    have ht : to_.toNat = k := by omega
    have hd : isDig (atI (bs s) to_.toNat) = true := by
      cases h : isDig (atI (bs s) to_.toNat)
      · rw [ht] at h
        have := lenW_stop isDig ((bs s).drop k) (by rw [atI_drop]; exact h)
        omega
      · rfl
    have hx := isHex_of_dig _ hd
    obtain ⟨d0, d1⟩ := digI_dig _ hd
    have hhead : isDig (atI ((bs s).drop k) 0) = true := by rw [atI_drop]; rw [ht] at hd; exact hd
    obtain ⟨hl1, hl2⟩ := lenW_more isDig isDig_zero ((bs s).drop k) hhead
    rw [List.drop_drop] at hl1
    rw [List.length_drop, bs_length] at hl2
    have hm' : lenW isDig ((bs s).drop (k + 1)) = m := by omega
    have hv := take_more isDig isDig_zero ((bs s).drop k) hhead 10 n
    rw [hm, List.drop_drop, hm', atI_drop] at hv
    simp only [Nat.add_zero] at hv
    rw [hv, show k + (m + 1) = k + 1 + m by omega] at hR
    have hs2 : s.size ≤ 4611686018427387904 := by omega
    have h0 : 0 ≤ to_ := by omega
    have h1 : to_ ≤ 4611686018427387850 := by omega
    have hge := val_ge (10 * n + digI (atI (bs s) k)) (((bs s).drop (k + 1)).take m) (by rw [ht] at d0; omega) (by rw [← hm']; exact take_all _ _)
    obtain ⟨c, hc⟩ : ∃ c, c = atI (bs s) k := ⟨_, rfl⟩
    rw [ht, ← hc] at hd hx d0 d1
    rw [← hc] at hR hge
    have hH := Hid.intro hk
    have hH2 := Hid.intro hR
    have hH3 := Hid.intro hge
    have hc' : atI (bs s) to_.toNat = c := by rw [ht, hc]
    clear hR hm ht hk hge hl1 hhead hv hc
    refine Lands.of rfl ?_
    go_wp2_with (first
      | (go_at_call 148; refine (byteAt_int _ _ (by omega) (by omega) (by assumption) _).mono ?_; rintro e w' ⟨rfl, rfl⟩)
      | (go_at_call 153; refine (inWord_any _ _).mono ?_; rintro e w' ⟨rfl, rfl⟩)
      | (go_at_call 151; refine (isDigit_any _ _).mono ?_; rintro e w' ⟨rfl, rfl⟩)
      | (go_at_call 179; refine (isHexDigit_any _ _).mono ?_; rintro e w' ⟨rfl, rfl⟩)
      | (go_at_call 180; refine (isQuotable_any _ _).mono ?_; rintro e w' ⟨rfl, rfl⟩)
      | (go_at_call 156; refine (digit_any _ (by assumption) _).mono ?_; rintro e w' ⟨rfl, rfl⟩))
    · go_step3
      have hge := hH3.out
      obtain ⟨hN, hT⟩ := hH2.out.bad (Or.inl (by omega))
      exact none_lands s at_ _ _ _ hN hT
    · go_step3
      have hk := hH.out
      exact ih (k + 1) _ _ (by omega) (by omega) hm' (by omega) (by omega) hH2.out
end Go.Proofs.YtmndccbeddaphaaGreatDoor
/- lex.numberAt: digits of 0 to f, and one byte between quotes; the contract. -/
namespace Go.Proofs.YtmndccbeddaphaaGreatDoor
open Go.ChangeShapes Go.WideShapes Go.ChangeAt Go.RowKit
set_option linter.unusedVariables false
set_option maxRecDepth 100000

theorem hex_lands (s : ByteArray) (at_ : Nat) (N T : Int) (w : World) (hs : s.size ≤ 4611686018427387800) (ha : at_ ≤ s.size) :
    ∀ (j i : Nat) (to_ n : Int), i + j = 8 → to_ = ((at_ + 2 + i : Nat) : Int) → 0 ≤ n → n < 16 ^ i →
    Res N T at_ (i + hexLen j ((bs s).drop (at_ + 2 + i)) = 0 ∨ inW (atI (bs s) (at_ + 2 + i + hexLen j ((bs s).drop (at_ + 2 + i)))) = true)
      (val 16 n (((bs s).drop (at_ + 2 + i)).take (hexLen j ((bs s).drop (at_ + 2 + i))))) (at_ + 2 + i + hexLen j ((bs s).drop (at_ + 2 + i))) →
    ∀ {u2 u3 u4 u5 u8 u9 u10 u11 u12 u13 u14 u15 u16 u17 u18 u19 u20 u21 u22 u23 u24 u25 u26 u27 u28 u29 u30 u31 u32 u33 u34 u35 u36 u37 u38 u39 u40 u41 u42 u43 u44 u45 u46 u47 u48 u49 u50 u51 u52 u53 u54 u55 u56 u57 u58 u59 u60 u61 u62 u63 u64 u65 u66 u67 u68 u69 u70 u71 u72 u73 u74 u75 u76 u77 u78 u79 u80 u81 u82 u83 u84 u85 u86 u87 u88 u89 u90 u91 u92 u93 u94 u95 u96 u97 u98 u99 : Value}, Lands Tryz.prog (scopeOf Tryz.f154) (Q28 N T w) 1 { tmps := List.toArray (.string s :: .int .i64 (at_ : Int) :: u2 :: u3 :: u4 :: u5 :: .int .u64 n :: .int .i64 to_ :: u8 :: u9 :: u10 :: u11 :: u12 :: u13 :: u14 :: u15 :: u16 :: u17 :: u18 :: u19 :: u20 :: u21 :: u22 :: u23 :: u24 :: u25 :: u26 :: u27 :: u28 :: u29 :: u30 :: u31 :: u32 :: u33 :: u34 :: u35 :: u36 :: u37 :: u38 :: u39 :: u40 :: u41 :: u42 :: u43 :: u44 :: u45 :: u46 :: u47 :: u48 :: u49 :: u50 :: u51 :: u52 :: u53 :: u54 :: u55 :: u56 :: u57 :: u58 :: u59 :: u60 :: u61 :: u62 :: u63 :: u64 :: u65 :: u66 :: u67 :: u68 :: u69 :: u70 :: u71 :: u72 :: u73 :: u74 :: u75 :: u76 :: u77 :: u78 :: u79 :: u80 :: u81 :: u82 :: u83 :: u84 :: u85 :: u86 :: u87 :: u88 :: u89 :: u90 :: u91 :: u92 :: u93 :: u94 :: u95 :: u96 :: u97 :: u98 :: u99 :: []), defers := [] } w := by
  intro j
  induction j with
  | zero =>
    intro i to_ n hi hk n0 n1 hR
    intros
    have htn : to_.toNat = at_ + 2 + i := by omega
    have hs2 : s.size ≤ 4611686018427387904 := by omega
    have h0 : 0 ≤ to_ := by omega
    have h1 : to_ ≤ 4611686018427387850 := by omega
    have hn2 := hex_small i n (by omega) n1
    have e0 : hexLen 0 ((bs s).drop (at_ + 2 + i)) = 0 := hexLen_stop _ _ (Or.inr rfl)
    rw [e0, List.take_zero, val_nil, Nat.add_zero, Nat.add_zero, ← htn] at hR
    have hlt : decide (to_ - (at_ : Int) < 10) = false := by simp; omega
    clear n1 e0
    cases hx : isHex (atI (bs s) to_.toNat)
    all_goals
      by_cases hi0 : i = 0
      · have he : (to_ - (at_ : Int) == 2) = true := by simp; omega
        obtain ⟨hN, hT⟩ := hR.bad (Or.inl hi0)
        clear hR hk htn
        refine Lands.of rfl ?_
        go_wp2_with (first
          | (go_at_call 148; refine (byteAt_int _ _ (by omega) (by omega) (by assumption) _).mono ?_; rintro e w' ⟨rfl, rfl⟩)
          | (go_at_call 153; refine (inWord_any _ _).mono ?_; rintro e w' ⟨rfl, rfl⟩)
          | (go_at_call 151; refine (isDigit_any _ _).mono ?_; rintro e w' ⟨rfl, rfl⟩)
          | (go_at_call 179; refine (isHexDigit_any _ _).mono ?_; rintro e w' ⟨rfl, rfl⟩)
          | (go_at_call 180; refine (isQuotable_any _ _).mono ?_; rintro e w' ⟨rfl, rfl⟩)
          | (go_at_call 156; refine (digit_any _ (by assumption) _).mono ?_; rintro e w' ⟨rfl, rfl⟩))
        go_step3
        exact none_lands s at_ _ _ _ hN hT
      · have he : (to_ - (at_ : Int) == 2) = false := by simp; omega
        have hR2 := hR.turn (bad' := inW (atI (bs s) to_.toNat) = true) ⟨fun h => Or.inr h, fun h => h.resolve_left hi0⟩ rfl rfl
        cases hin : inW (atI (bs s) to_.toNat)
        · obtain ⟨hN, hT0⟩ := hR2.good (by rw [hin]; simp)
          have hT : T = to_ := by omega
          clear hR hR2 hk htn hT0
          subst hN hT
          refine Lands.of rfl ?_
          go_wp2_with (first
          | (go_at_call 148; refine (byteAt_int _ _ (by omega) (by omega) (by assumption) _).mono ?_; rintro e w' ⟨rfl, rfl⟩)
          | (go_at_call 153; refine (inWord_any _ _).mono ?_; rintro e w' ⟨rfl, rfl⟩)
          | (go_at_call 151; refine (isDigit_any _ _).mono ?_; rintro e w' ⟨rfl, rfl⟩)
          | (go_at_call 179; refine (isHexDigit_any _ _).mono ?_; rintro e w' ⟨rfl, rfl⟩)
          | (go_at_call 180; refine (isQuotable_any _ _).mono ?_; rintro e w' ⟨rfl, rfl⟩)
          | (go_at_call 156; refine (digit_any _ (by assumption) _).mono ?_; rintro e w' ⟨rfl, rfl⟩))
          go_step3
          go_wp2_with (first
          | (go_at_call 148; refine (byteAt_int _ _ (by omega) (by omega) (by assumption) _).mono ?_; rintro e w' ⟨rfl, rfl⟩)
          | (go_at_call 153; refine (inWord_any _ _).mono ?_; rintro e w' ⟨rfl, rfl⟩)
          | (go_at_call 151; refine (isDigit_any _ _).mono ?_; rintro e w' ⟨rfl, rfl⟩)
          | (go_at_call 179; refine (isHexDigit_any _ _).mono ?_; rintro e w' ⟨rfl, rfl⟩)
          | (go_at_call 180; refine (isQuotable_any _ _).mono ?_; rintro e w' ⟨rfl, rfl⟩)
          | (go_at_call 156; refine (digit_any _ (by assumption) _).mono ?_; rintro e w' ⟨rfl, rfl⟩))
          rw [jumps_ret]
          unfold Q28
          go_ret2
          exact ⟨rfl, rfl⟩
        · obtain ⟨hN, hT⟩ := hR2.bad hin
          clear hR hR2 hk htn
          refine Lands.of rfl ?_
          go_wp2_with (first
          | (go_at_call 148; refine (byteAt_int _ _ (by omega) (by omega) (by assumption) _).mono ?_; rintro e w' ⟨rfl, rfl⟩)
          | (go_at_call 153; refine (inWord_any _ _).mono ?_; rintro e w' ⟨rfl, rfl⟩)
          | (go_at_call 151; refine (isDigit_any _ _).mono ?_; rintro e w' ⟨rfl, rfl⟩)
          | (go_at_call 179; refine (isHexDigit_any _ _).mono ?_; rintro e w' ⟨rfl, rfl⟩)
          | (go_at_call 180; refine (isQuotable_any _ _).mono ?_; rintro e w' ⟨rfl, rfl⟩)
          | (go_at_call 156; refine (digit_any _ (by assumption) _).mono ?_; rintro e w' ⟨rfl, rfl⟩))
          go_step3
          go_wp2_with (first
          | (go_at_call 148; refine (byteAt_int _ _ (by omega) (by omega) (by assumption) _).mono ?_; rintro e w' ⟨rfl, rfl⟩)
          | (go_at_call 153; refine (inWord_any _ _).mono ?_; rintro e w' ⟨rfl, rfl⟩)
          | (go_at_call 151; refine (isDigit_any _ _).mono ?_; rintro e w' ⟨rfl, rfl⟩)
          | (go_at_call 179; refine (isHexDigit_any _ _).mono ?_; rintro e w' ⟨rfl, rfl⟩)
          | (go_at_call 180; refine (isQuotable_any _ _).mono ?_; rintro e w' ⟨rfl, rfl⟩)
          | (go_at_call 156; refine (digit_any _ (by assumption) _).mono ?_; rintro e w' ⟨rfl, rfl⟩))
          go_step3
          exact none_lands s at_ _ _ _ hN hT

  | succ j ih =>
    intro i to_ n hi hk n0 n1 hR
    intros
    have htn : to_.toNat = at_ + 2 + i := by omega
    have hs2 : s.size ≤ 4611686018427387904 := by omega
    have h0 : 0 ≤ to_ := by omega
    have h1 : to_ ≤ 4611686018427387850 := by omega
    have hlt : decide (to_ - (at_ : Int) < 10) = true := by simp; omega
    cases hx : isHex (atI (bs s) to_.toNat)
    · have hn2 := hex_small i n (by omega) n1
      have e0 : hexLen (j + 1) ((bs s).drop (at_ + 2 + i)) = 0 := hexLen_stop _ _ (Or.inl (by rw [atI_drop, Nat.add_zero, ← htn]; exact hx))
      rw [e0, List.take_zero, val_nil, Nat.add_zero, Nat.add_zero, ← htn] at hR
      clear n1 e0 ih
      by_cases hi0 : i = 0
      · have he : (to_ - (at_ : Int) == 2) = true := by simp; omega
        obtain ⟨hN, hT⟩ := hR.bad (Or.inl hi0)
        clear hR hk htn
        refine Lands.of rfl ?_
        go_wp2_with (first
          | (go_at_call 148; refine (byteAt_int _ _ (by omega) (by omega) (by assumption) _).mono ?_; rintro e w' ⟨rfl, rfl⟩)
          | (go_at_call 153; refine (inWord_any _ _).mono ?_; rintro e w' ⟨rfl, rfl⟩)
          | (go_at_call 151; refine (isDigit_any _ _).mono ?_; rintro e w' ⟨rfl, rfl⟩)
          | (go_at_call 179; refine (isHexDigit_any _ _).mono ?_; rintro e w' ⟨rfl, rfl⟩)
          | (go_at_call 180; refine (isQuotable_any _ _).mono ?_; rintro e w' ⟨rfl, rfl⟩)
          | (go_at_call 156; refine (digit_any _ (by assumption) _).mono ?_; rintro e w' ⟨rfl, rfl⟩))
        go_step3
        exact none_lands s at_ _ _ _ hN hT
      · have he : (to_ - (at_ : Int) == 2) = false := by simp; omega
        have hR2 := hR.turn (bad' := inW (atI (bs s) to_.toNat) = true) ⟨fun h => Or.inr h, fun h => h.resolve_left hi0⟩ rfl rfl
        cases hin : inW (atI (bs s) to_.toNat)
        · obtain ⟨hN, hT0⟩ := hR2.good (by rw [hin]; simp)
          have hT : T = to_ := by omega
          clear hR hR2 hk htn hT0
          subst hN hT
          refine Lands.of rfl ?_
          go_wp2_with (first
          | (go_at_call 148; refine (byteAt_int _ _ (by omega) (by omega) (by assumption) _).mono ?_; rintro e w' ⟨rfl, rfl⟩)
          | (go_at_call 153; refine (inWord_any _ _).mono ?_; rintro e w' ⟨rfl, rfl⟩)
          | (go_at_call 151; refine (isDigit_any _ _).mono ?_; rintro e w' ⟨rfl, rfl⟩)
          | (go_at_call 179; refine (isHexDigit_any _ _).mono ?_; rintro e w' ⟨rfl, rfl⟩)
          | (go_at_call 180; refine (isQuotable_any _ _).mono ?_; rintro e w' ⟨rfl, rfl⟩)
          | (go_at_call 156; refine (digit_any _ (by assumption) _).mono ?_; rintro e w' ⟨rfl, rfl⟩))
          go_step3
          go_wp2_with (first
          | (go_at_call 148; refine (byteAt_int _ _ (by omega) (by omega) (by assumption) _).mono ?_; rintro e w' ⟨rfl, rfl⟩)
          | (go_at_call 153; refine (inWord_any _ _).mono ?_; rintro e w' ⟨rfl, rfl⟩)
          | (go_at_call 151; refine (isDigit_any _ _).mono ?_; rintro e w' ⟨rfl, rfl⟩)
          | (go_at_call 179; refine (isHexDigit_any _ _).mono ?_; rintro e w' ⟨rfl, rfl⟩)
          | (go_at_call 180; refine (isQuotable_any _ _).mono ?_; rintro e w' ⟨rfl, rfl⟩)
          | (go_at_call 156; refine (digit_any _ (by assumption) _).mono ?_; rintro e w' ⟨rfl, rfl⟩))
          rw [jumps_ret]
          unfold Q28
          go_ret2
          exact ⟨rfl, rfl⟩
        · obtain ⟨hN, hT⟩ := hR2.bad hin
          clear hR hR2 hk htn
          refine Lands.of rfl ?_
          go_wp2_with (first
          | (go_at_call 148; refine (byteAt_int _ _ (by omega) (by omega) (by assumption) _).mono ?_; rintro e w' ⟨rfl, rfl⟩)
          | (go_at_call 153; refine (inWord_any _ _).mono ?_; rintro e w' ⟨rfl, rfl⟩)
          | (go_at_call 151; refine (isDigit_any _ _).mono ?_; rintro e w' ⟨rfl, rfl⟩)
          | (go_at_call 179; refine (isHexDigit_any _ _).mono ?_; rintro e w' ⟨rfl, rfl⟩)
          | (go_at_call 180; refine (isQuotable_any _ _).mono ?_; rintro e w' ⟨rfl, rfl⟩)
          | (go_at_call 156; refine (digit_any _ (by assumption) _).mono ?_; rintro e w' ⟨rfl, rfl⟩))
          go_step3
          go_wp2_with (first
          | (go_at_call 148; refine (byteAt_int _ _ (by omega) (by omega) (by assumption) _).mono ?_; rintro e w' ⟨rfl, rfl⟩)
          | (go_at_call 153; refine (inWord_any _ _).mono ?_; rintro e w' ⟨rfl, rfl⟩)
          | (go_at_call 151; refine (isDigit_any _ _).mono ?_; rintro e w' ⟨rfl, rfl⟩)
          | (go_at_call 179; refine (isHexDigit_any _ _).mono ?_; rintro e w' ⟨rfl, rfl⟩)
          | (go_at_call 180; refine (isQuotable_any _ _).mono ?_; rintro e w' ⟨rfl, rfl⟩)
          | (go_at_call 156; refine (digit_any _ (by assumption) _).mono ?_; rintro e w' ⟨rfl, rfl⟩))
          go_step3
          exact none_lands s at_ _ _ _ hN hT

    · have hhead : isHex (atI ((bs s).drop (at_ + 2 + i)) 0) = true := by rw [atI_drop, Nat.add_zero, ← htn]; exact hx
      obtain ⟨d0, d1⟩ := digI_lo _ hx
      have hv := hexTake_more j _ hhead n
      have hl := hexLen_more j _ hhead
      rw [atI_drop, List.drop_drop] at hv
      rw [List.drop_drop] at hl
      rw [hv, hl] at hR
      simp only [Nat.add_zero] at hR
      obtain ⟨q0, q1, q2⟩ := hex_step i n (digI (atI (bs s) to_.toNat)) (by omega) n0 n1 d0 d1
      have hn2 := hex_small i n (by omega) n1
      have hR2 : Res N T at_ (i + 1 + hexLen j ((bs s).drop (at_ + 2 + (i + 1))) = 0 ∨ inW (atI (bs s) (at_ + 2 + (i + 1) + hexLen j ((bs s).drop (at_ + 2 + (i + 1))))) = true)
          (val 16 (16 * n + digI (atI (bs s) to_.toNat)) (((bs s).drop (at_ + 2 + (i + 1))).take (hexLen j ((bs s).drop (at_ + 2 + (i + 1)))))) (at_ + 2 + (i + 1) + hexLen j ((bs s).drop (at_ + 2 + (i + 1)))) := by
        rw [htn]
        refine hR.turn ?_ ?_ ?_
        · rw [show at_ + 2 + (i + 1) = at_ + 2 + i + 1 by omega, show at_ + 2 + i + (hexLen j (List.drop (at_ + 2 + i + 1) (bs s)) + 1) = at_ + 2 + i + 1 + hexLen j (List.drop (at_ + 2 + i + 1) (bs s)) by omega]
          refine or_congr ?_ Iff.rfl
          omega
        · rw [show at_ + 2 + (i + 1) = at_ + 2 + i + 1 by omega]
        · rw [show at_ + 2 + (i + 1) = at_ + 2 + i + 1 by omega]; omega
      obtain ⟨c, hc⟩ : ∃ c, c = atI (bs s) to_.toNat := ⟨_, rfl⟩
      rw [← hc] at hx d0 d1 q0 q1 q2 hR2
      have hc' := hc.symm
      have hH := Hid.intro hR2
      have hH2 := Hid.intro hk
      have hH3 := Hid.intro q1
      clear hR hR2 hv hl hhead hc n1 q1 hk htn
      refine Lands.of rfl ?_
      go_wp2_with (first
      | (go_at_call 148; refine (byteAt_int _ _ (by omega) (by omega) (by assumption) _).mono ?_; rintro e w' ⟨rfl, rfl⟩)
      | (go_at_call 153; refine (inWord_any _ _).mono ?_; rintro e w' ⟨rfl, rfl⟩)
      | (go_at_call 151; refine (isDigit_any _ _).mono ?_; rintro e w' ⟨rfl, rfl⟩)
      | (go_at_call 179; refine (isHexDigit_any _ _).mono ?_; rintro e w' ⟨rfl, rfl⟩)
      | (go_at_call 180; refine (isQuotable_any _ _).mono ?_; rintro e w' ⟨rfl, rfl⟩)
      | (go_at_call 156; refine (digit_any _ (by assumption) _).mono ?_; rintro e w' ⟨rfl, rfl⟩))
      go_step3
      have hk := hH2.out
      exact ih (i + 1) _ _ (by omega) (by omega) q0 hH3.out hH.out

theorem quoted_lands (s : ByteArray) (at_ : Nat) (N T : Int) (w : World) (hs : s.size ≤ 4611686018427387800) (ha : at_ ≤ s.size)
    (hR : Res N T at_ (¬ (isQuo (atI (bs s) (at_ + 1)) = true ∧ atI (bs s) (at_ + 2) = 39)) (atI (bs s) (at_ + 1)) (at_ + 3)) {u2 u3 u4 u5 u6 u7 u8 u9 u10 u11 u12 u13 u14 u15 u16 u17 u18 u19 u20 u21 u22 u23 u24 u25 u26 u27 u28 u29 u30 u31 u32 u33 u34 u35 u36 u37 u38 u39 u40 u41 u42 u43 u44 u45 u46 u47 u48 u49 u50 u51 u52 u53 u54 u55 u56 u57 u58 u59 u60 u61 u62 u63 u64 u65 u66 u67 u68 u69 u70 u71 u72 u73 u74 u75 u76 u77 u78 u79 u80 u81 u82 u83 u84 u85 u86 u87 u88 u89 u90 u91 u92 u93 u94 u95 u96 u97 u98 u99 : Value} :
    Lands Tryz.prog (scopeOf Tryz.f154) (Q28 N T w) 0 { tmps := List.toArray (.string s :: .int .i64 (at_ : Int) :: u2 :: u3 :: u4 :: u5 :: u6 :: u7 :: u8 :: u9 :: u10 :: u11 :: u12 :: u13 :: u14 :: u15 :: u16 :: u17 :: u18 :: u19 :: u20 :: u21 :: u22 :: u23 :: u24 :: u25 :: u26 :: u27 :: u28 :: u29 :: u30 :: u31 :: u32 :: u33 :: u34 :: u35 :: u36 :: u37 :: u38 :: u39 :: u40 :: u41 :: u42 :: u43 :: u44 :: u45 :: u46 :: u47 :: u48 :: u49 :: u50 :: u51 :: u52 :: u53 :: u54 :: u55 :: u56 :: u57 :: u58 :: u59 :: u60 :: u61 :: u62 :: u63 :: u64 :: u65 :: u66 :: u67 :: u68 :: u69 :: u70 :: u71 :: u72 :: u73 :: u74 :: u75 :: u76 :: u77 :: u78 :: u79 :: u80 :: u81 :: u82 :: u83 :: u84 :: u85 :: u86 :: u87 :: u88 :: u89 :: u90 :: u91 :: u92 :: u93 :: u94 :: u95 :: u96 :: u97 :: u98 :: u99 :: []), defers := [] } w := by
  have e1 : ((at_ : Int) + 1).toNat = at_ + 1 := by omega
  have e2 : ((at_ : Int) + 2).toNat = at_ + 2 := by omega
  have hs2 : s.size ≤ 4611686018427387904 := by omega
  cases hq : isQuo (atI (bs s) (at_ + 1))
  · obtain ⟨hN, hT⟩ := hR.bad (by rw [hq]; simp)
    clear hR
    subst hN hT
    refine Lands.of rfl ?_
    go_wp2_with (first
      | (go_at_call 148; refine (byteAt_int _ _ (by omega) (by omega) (by assumption) _).mono ?_; rintro e w' ⟨rfl, rfl⟩)
      | (go_at_call 153; refine (inWord_any _ _).mono ?_; rintro e w' ⟨rfl, rfl⟩)
      | (go_at_call 151; refine (isDigit_any _ _).mono ?_; rintro e w' ⟨rfl, rfl⟩)
      | (go_at_call 179; refine (isHexDigit_any _ _).mono ?_; rintro e w' ⟨rfl, rfl⟩)
      | (go_at_call 180; refine (isQuotable_any _ _).mono ?_; rintro e w' ⟨rfl, rfl⟩)
      | (go_at_call 156; refine (digit_any _ (by assumption) _).mono ?_; rintro e w' ⟨rfl, rfl⟩))
    go_step3
    go_wp2
    rw [jumps_ret]
    unfold Q28
    go_ret2
    exact ⟨rfl, rfl⟩
  · by_cases h2 : atI (bs s) (at_ + 2) = 39
    · obtain ⟨hN, hT⟩ := hR.good (by simp [hq, h2])
      have hlt : at_ + 1 < s.size := by
        apply Decidable.byContradiction
        intro hn
        rw [atI_out (bs s) (at_ + 2) (by rw [bs_length]; omega)] at h2
        omega
      have hg := atI_get s (at_ + 1) hlt
      clear hR
      have hT' : T = (at_ : Int) + 3 := by omega
      subst hN hT'
      clear hT
      have hgi : ((s[((at_ : Int) + 1).toNat]'(by omega)).toNat : Int) = atI (bs s) (at_ + 1) := by rw [← hg]; congr 2
      have hb0 := atI_lo (bs s) (at_ + 1)
      have hb1 := atI_hi (bs s) (at_ + 1)
      refine Lands.of rfl ?_
      go_wp2_with (first
      | (go_at_call 148; refine (byteAt_int _ _ (by omega) (by omega) (by assumption) _).mono ?_; rintro e w' ⟨rfl, rfl⟩)
      | (go_at_call 153; refine (inWord_any _ _).mono ?_; rintro e w' ⟨rfl, rfl⟩)
      | (go_at_call 151; refine (isDigit_any _ _).mono ?_; rintro e w' ⟨rfl, rfl⟩)
      | (go_at_call 179; refine (isHexDigit_any _ _).mono ?_; rintro e w' ⟨rfl, rfl⟩)
      | (go_at_call 180; refine (isQuotable_any _ _).mono ?_; rintro e w' ⟨rfl, rfl⟩)
      | (go_at_call 156; refine (digit_any _ (by assumption) _).mono ?_; rintro e w' ⟨rfl, rfl⟩))
      rw [jumps_ret]
      unfold Q28
      go_ret2
      exact ⟨by first | rfl | (simp only [hg]) | (simp only [hgi]), rfl⟩
    · obtain ⟨hN, hT⟩ := hR.bad (by simp [h2])
      have h2' : (atI (bs s) (at_ + 2) == 39) = false := by simpa using h2
      clear hR h2
      subst hN hT
      refine Lands.of rfl ?_
      go_wp2_with (first
      | (go_at_call 148; refine (byteAt_int _ _ (by omega) (by omega) (by assumption) _).mono ?_; rintro e w' ⟨rfl, rfl⟩)
      | (go_at_call 153; refine (inWord_any _ _).mono ?_; rintro e w' ⟨rfl, rfl⟩)
      | (go_at_call 151; refine (isDigit_any _ _).mono ?_; rintro e w' ⟨rfl, rfl⟩)
      | (go_at_call 179; refine (isHexDigit_any _ _).mono ?_; rintro e w' ⟨rfl, rfl⟩)
      | (go_at_call 180; refine (isQuotable_any _ _).mono ?_; rintro e w' ⟨rfl, rfl⟩)
      | (go_at_call 156; refine (digit_any _ (by assumption) _).mono ?_; rintro e w' ⟨rfl, rfl⟩))
      go_step3
      go_wp2
      rw [jumps_ret]
      unfold Q28
      go_ret2
      exact ⟨rfl, rfl⟩
end Go.Proofs.YtmndccbeddaphaaGreatDoor
namespace Go.Proofs.YtmndccbeddaphaaGreatDoor
open Go.ChangeShapes Go.WideShapes Go.ChangeAt Go.RowKit
set_option linter.unusedVariables false
set_option maxRecDepth 100000

theorem res_of (r : List UInt8) (at_ : Nat) (bad : Prop) (v : Int) (k : Nat) (h1 : bad → numAt r = none) (h2 : ¬ bad → numAt r = some (v, k)) :
    Res (numN r) ((at_ : Int) + numL r) at_ bad v (at_ + k) := by
  refine ⟨fun hb => ?_, fun hb => ?_⟩
  · simp [numN, numL, h1 hb]
  · simp [numN, numL, h2 hb]

theorem num_quoted (r : List UInt8) (at_ : Nat) (h : atI r 0 = 39) :
    Res (numN r) ((at_ : Int) + numL r) at_ (¬ (isQuo (atI r 1) = true ∧ atI r 2 = 39)) (atI r 1) (at_ + 3) := by
  apply res_of
  · intro hb; unfold numAt; rw [if_pos h, if_neg hb]
  · intro hb; unfold numAt; rw [if_pos h, if_pos (Decidable.not_not.1 hb)]

theorem num_hex (r : List UInt8) (at_ : Nat) (h : atI r 0 = 48) (h1 : atI r 1 = 120) :
    Res (numN r) ((at_ : Int) + numL r) at_ (hexLen 8 (r.drop 2) = 0 ∨ inW (atI r (2 + hexLen 8 (r.drop 2))) = true) (val 16 0 ((r.drop 2).take (hexLen 8 (r.drop 2)))) (at_ + (2 + hexLen 8 (r.drop 2))) := by
  apply res_of
  · intro hb; unfold numAt; rw [if_neg (by omega), if_pos ⟨h, h1⟩, if_pos hb]
  · intro hb; unfold numAt; rw [if_neg (by omega), if_pos ⟨h, h1⟩, if_neg hb]

theorem num_zero (r : List UInt8) (at_ : Nat) (h : atI r 0 = 48) (h1 : ¬ atI r 1 = 120) :
    Res (numN r) ((at_ : Int) + numL r) at_ (inW (atI r 1) = true) 0 (at_ + 1) := by
  apply res_of
  · intro hb; unfold numAt; rw [if_neg (by omega), if_neg (fun x => h1 x.2), if_pos h, if_pos hb]
  · intro hb; unfold numAt; rw [if_neg (by omega), if_neg (fun x => h1 x.2), if_pos h, if_neg hb]

theorem num_dec (r : List UInt8) (at_ : Nat) (h : ¬ atI r 0 = 39) (h1 : ¬ atI r 0 = 48) :
    Res (numN r) ((at_ : Int) + numL r) at_ (4294967295 < val 10 0 (r.take (lenW isDig r)) ∨ inW (atI r (lenW isDig r)) = true) (val 10 0 (r.take (lenW isDig r))) (at_ + lenW isDig r) := by
  apply res_of
  · intro hb; unfold numAt; rw [if_neg h, if_neg (fun x => h1 x.1), if_neg h1, if_pos hb]
  · intro hb; unfold numAt; rw [if_neg h, if_neg (fun x => h1 x.1), if_neg h1, if_neg hb]

theorem numberAt_any (s : ByteArray) (at_ : Nat) (ha : at_ < s.size) (hs : s.size ≤ 4611686018427387800) (hd : isDig (atI (bs s) at_) = true ∨ atI (bs s) at_ = 39) (w : World) :
    Calls Tryz.prog 154 #[.string s, .int .i64 (at_ : Int)] w fun e w' => e = .returned (.tuple #[.int .u32 (numN ((bs s).drop at_)), .int .i64 ((at_ : Int) + numL ((bs s).drop at_))]) ∧ w' = w := by
  have hg := atI_get s at_ ha
  have hs2 : s.size ≤ 4611686018427387904 := by omega
  have r0 : atI ((bs s).drop at_) 0 = atI (bs s) at_ := by rw [atI_drop, Nat.add_zero]
  have r1 : atI ((bs s).drop at_) 1 = atI (bs s) (at_ + 1) := by rw [atI_drop]
  have r2 : atI ((bs s).drop at_) 2 = atI (bs s) (at_ + 2) := by rw [atI_drop]
  have e1 : ((at_ : Int) + 1).toNat = at_ + 1 := by omega
  obtain ⟨N, hN⟩ : ∃ N, N = numN ((bs s).drop at_) := ⟨_, rfl⟩
  obtain ⟨T, hT⟩ : ∃ T, T = (at_ : Int) + numL ((bs s).drop at_) := ⟨_, rfl⟩
  rw [← hN, ← hT]
  by_cases hq : atI (bs s) at_ = 39
  · have hR := Hid.intro (num_quoted ((bs s).drop at_) at_ (by rw [r0]; exact hq))
    rw [r1, r2, ← hN, ← hT] at hR
    clear hN hT r0 r1 r2 hd
    go_enter Tryz.func154, Tryz.ntmps154
    go_wp2
    refine wp_scope_at (Q := Q28 N T _) Tryz.f154 rfl ?_
    go_wp2_with (first
      | (go_at_call 148; refine (byteAt_int _ _ (by omega) (by omega) (by assumption) _).mono ?_; rintro e w' ⟨rfl, rfl⟩)
      | (go_at_call 153; refine (inWord_any _ _).mono ?_; rintro e w' ⟨rfl, rfl⟩)
      | (go_at_call 151; refine (isDigit_any _ _).mono ?_; rintro e w' ⟨rfl, rfl⟩)
      | (go_at_call 179; refine (isHexDigit_any _ _).mono ?_; rintro e w' ⟨rfl, rfl⟩)
      | (go_at_call 180; refine (isQuotable_any _ _).mono ?_; rintro e w' ⟨rfl, rfl⟩)
      | (go_at_call 156; refine (digit_any _ (by assumption) _).mono ?_; rintro e w' ⟨rfl, rfl⟩))
    go_step3
    exact quoted_lands s at_ N T _ hs (by omega) hR.out
  · have hd1 : isDig (atI (bs s) at_) = true := hd.resolve_right hq
    have hqf : (atI (bs s) at_ == 39) = false := by simpa using hq
    by_cases h0 : atI (bs s) at_ = 48
    · by_cases h1 : atI (bs s) (at_ + 1) = 120
      · have hR := num_hex ((bs s).drop at_) at_ (by rw [r0]; exact h0) (by rw [r1]; exact h1)
        rw [← hN, ← hT, List.drop_drop, atI_drop] at hR
        have hR2 : Res N T at_ (0 + hexLen 8 ((bs s).drop (at_ + 2 + 0)) = 0 ∨ inW (atI (bs s) (at_ + 2 + 0 + hexLen 8 ((bs s).drop (at_ + 2 + 0)))) = true)
            (val 16 0 (((bs s).drop (at_ + 2 + 0)).take (hexLen 8 ((bs s).drop (at_ + 2 + 0))))) (at_ + 2 + 0 + hexLen 8 ((bs s).drop (at_ + 2 + 0))) := by
          refine hR.turn ?_ rfl (by simp only [Nat.add_zero]; omega)
          rw [Nat.zero_add, show at_ + 2 + 0 = at_ + 2 by omega, Nat.add_assoc]
        have hH := Hid.intro hR2
        clear hN hT r0 r1 r2 hd hR hR2 hq hqf hd1
        go_enter Tryz.func154, Tryz.ntmps154
        go_wp2
        refine wp_scope_at (Q := Q28 N T _) Tryz.f154 rfl ?_
        go_wp2_with (first
      | (go_at_call 148; refine (byteAt_int _ _ (by omega) (by omega) (by assumption) _).mono ?_; rintro e w' ⟨rfl, rfl⟩)
      | (go_at_call 153; refine (inWord_any _ _).mono ?_; rintro e w' ⟨rfl, rfl⟩)
      | (go_at_call 151; refine (isDigit_any _ _).mono ?_; rintro e w' ⟨rfl, rfl⟩)
      | (go_at_call 179; refine (isHexDigit_any _ _).mono ?_; rintro e w' ⟨rfl, rfl⟩)
      | (go_at_call 180; refine (isQuotable_any _ _).mono ?_; rintro e w' ⟨rfl, rfl⟩)
      | (go_at_call 156; refine (digit_any _ (by assumption) _).mono ?_; rintro e w' ⟨rfl, rfl⟩))
        go_step3
        exact hex_lands s at_ N T _ hs (by omega) 8 0 _ 0 rfl (by omega) (by omega) (by simp) hH.out
      · have hR := num_zero ((bs s).drop at_) at_ (by rw [r0]; exact h0) (by rw [r1]; exact h1)
        rw [← hN, ← hT, r1] at hR
        have h1f : (atI (bs s) (at_ + 1) == 120) = false := by simpa using h1
        have hH := Hid.intro hR
        clear hN hT r0 r1 r2 hd hR hq hqf hd1 h1
        go_enter Tryz.func154, Tryz.ntmps154
        go_wp2
        refine wp_scope_at (Q := Q28 N T _) Tryz.f154 rfl ?_
        go_wp2_with (first
      | (go_at_call 148; refine (byteAt_int _ _ (by omega) (by omega) (by assumption) _).mono ?_; rintro e w' ⟨rfl, rfl⟩)
      | (go_at_call 153; refine (inWord_any _ _).mono ?_; rintro e w' ⟨rfl, rfl⟩)
      | (go_at_call 151; refine (isDigit_any _ _).mono ?_; rintro e w' ⟨rfl, rfl⟩)
      | (go_at_call 179; refine (isHexDigit_any _ _).mono ?_; rintro e w' ⟨rfl, rfl⟩)
      | (go_at_call 180; refine (isQuotable_any _ _).mono ?_; rintro e w' ⟨rfl, rfl⟩)
      | (go_at_call 156; refine (digit_any _ (by assumption) _).mono ?_; rintro e w' ⟨rfl, rfl⟩))
        go_step3
        exact behind_lands s at_ (at_ + 1) 0 _ N T _ (by omega) (by omega) hs2 (by omega) (by omega) hH.out
    · have hR := num_dec ((bs s).drop at_) at_ (by rw [r0]; exact hq) (by rw [r0]; exact h0)
      rw [← hN, ← hT, atI_drop] at hR
      have h0f : (atI (bs s) at_ == 48) = false := by simpa using h0
      have hx := isHex_of_dig _ hd1
      obtain ⟨d0, d1⟩ := digI_dig _ hd1
      have hhead : isDig (atI ((bs s).drop at_) 0) = true := by rw [r0]; exact hd1
      have hv := take_more isDig isDig_zero ((bs s).drop at_) hhead 10 0
      have hl := (lenW_more isDig isDig_zero ((bs s).drop at_) hhead).1
      rw [List.drop_drop] at hl
      rw [List.drop_drop, r0, show (10 : Int) * 0 + digI (atI (bs s) at_) = digI (atI (bs s) at_) by omega] at hv
      have hR2 : Res N T at_ (4294967295 < val 10 (digI (atI (bs s) at_)) (((bs s).drop (at_ + 1)).take (lenW isDig ((bs s).drop (at_ + 1)))) ∨ inW (atI (bs s) (at_ + 1 + lenW isDig ((bs s).drop (at_ + 1)))) = true)
          (val 10 (digI (atI (bs s) at_)) (((bs s).drop (at_ + 1)).take (lenW isDig ((bs s).drop (at_ + 1))))) (at_ + 1 + lenW isDig ((bs s).drop (at_ + 1))) := by
        refine hR.turn ?_ hv.symm (by rw [hl]; omega)
        rw [hv, hl, show at_ + 1 + lenW isDig (List.drop (at_ + 1) (bs s)) = at_ + (lenW isDig (List.drop (at_ + 1) (bs s)) + 1) by omega]
      obtain ⟨c, hc⟩ : ∃ c, c = atI (bs s) at_ := ⟨_, rfl⟩
      rw [← hc] at hd1 hx d0 d1 hR2 hqf h0f hg
      have hc' := hc.symm
      have hH := Hid.intro hR2
      clear hN hT r0 r1 r2 hd hR hR2 hq h0 hhead hv hl hc
      go_enter Tryz.func154, Tryz.ntmps154
      go_wp2
      refine wp_scope_at (Q := Q28 N T _) Tryz.f154 rfl ?_
      go_wp2_with (first
      | (go_at_call 148; refine (byteAt_int _ _ (by omega) (by omega) (by assumption) _).mono ?_; rintro e w' ⟨rfl, rfl⟩)
      | (go_at_call 153; refine (inWord_any _ _).mono ?_; rintro e w' ⟨rfl, rfl⟩)
      | (go_at_call 151; refine (isDigit_any _ _).mono ?_; rintro e w' ⟨rfl, rfl⟩)
      | (go_at_call 179; refine (isHexDigit_any _ _).mono ?_; rintro e w' ⟨rfl, rfl⟩)
      | (go_at_call 180; refine (isQuotable_any _ _).mono ?_; rintro e w' ⟨rfl, rfl⟩)
      | (go_at_call 156; refine (digit_any _ (by assumption) _).mono ?_; rintro e w' ⟨rfl, rfl⟩))
      go_step3
      go_wp2_with (first
      | (go_at_call 148; refine (byteAt_int _ _ (by omega) (by omega) (by assumption) _).mono ?_; rintro e w' ⟨rfl, rfl⟩)
      | (go_at_call 153; refine (inWord_any _ _).mono ?_; rintro e w' ⟨rfl, rfl⟩)
      | (go_at_call 151; refine (isDigit_any _ _).mono ?_; rintro e w' ⟨rfl, rfl⟩)
      | (go_at_call 179; refine (isHexDigit_any _ _).mono ?_; rintro e w' ⟨rfl, rfl⟩)
      | (go_at_call 180; refine (isQuotable_any _ _).mono ?_; rintro e w' ⟨rfl, rfl⟩)
      | (go_at_call 156; refine (digit_any _ (by assumption) _).mono ?_; rintro e w' ⟨rfl, rfl⟩))
      go_step3
      exact dec_lands s at_ N T _ hs _ (at_ + 1) _ _ (by omega) (by omega) rfl (by omega) (by omega) hH.out
end Go.Proofs.YtmndccbeddaphaaGreatDoor
