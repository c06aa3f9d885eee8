/- lex.numberAt: the number at a place, and the place behind it. -/
import Derived.Test.YtijdjljnppkhmaaDoorSpec
namespace Go.Proofs.YtijdjljnppkhmaaDoor
open Go.ChangeShapes Go.WideShapes Go.ChangeAt Go.RowKit
set_option linter.unusedVariables false
set_option maxRecDepth 100000

theorem Hid.intro {p : Prop} (h : p) : Hid p := h
def Q28 (N T : Int) (w : World) : Exit → Act → World → Prop := bodyPost Tryd.prog Tryd.f80 fun e w' => e = .returned (.tuple #[.int .u32 N, .int .i64 T]) ∧ w' = w

theorem byteAt_int (s : ByteArray) (z : Int) (h0 : 0 ≤ z) (hk : z ≤ 4611686018427387904) (hs : s.size ≤ 4611686018427387904) (w : World) :
    Calls Tryd.prog 74 #[.string s, .int .i64 z] w fun e w' => e = .returned (.int .u8 (atI (bs s) z.toNat)) ∧ w' = w := by
  obtain ⟨k, rfl⟩ := Int.eq_ofNat_of_zero_le h0
  exact byteAt_any s k (by omega) hs w

theorem none_lands (s : ByteArray) (at_ : Nat) (N T : Int) (w : World) (hN : N = 0) (hT : T = at_) {u2 u3 u4 u5 u6 u7 u8 u9 u10 u11 u12 u13 u14 u15 u16 u17 u18 u19 u20 u21 u22 u23 u24 u25 u26 u27 u28 u29 u30 u31 u32 u33 u34 u35 u36 u37 u38 u39 u40 u41 u42 u43 u44 u45 u46 u47 u48 u49 u50 u51 u52 u53 u54 u55 u56 u57 u58 u59 u60 u61 u62 u63 u64 u65 u66 u67 u68 u69 u70 u71 u72 u73 u74 u75 u76 u77 u78 u79 u80 u81 u82 u83 u84 u85 u86 u87 u88 u89 u90 u91 u92 u93 u94 u95 u96 u97 u98 u99 : Value} :
    Lands Tryd.prog (scopeOf Tryd.f80) (Q28 N T w) 3 { tmps := List.toArray (.string s :: .int .i64 (at_ : Int) :: u2 :: u3 :: u4 :: u5 :: u6 :: u7 :: u8 :: u9 :: u10 :: u11 :: u12 :: u13 :: u14 :: u15 :: u16 :: u17 :: u18 :: u19 :: u20 :: u21 :: u22 :: u23 :: u24 :: u25 :: u26 :: u27 :: u28 :: u29 :: u30 :: u31 :: u32 :: u33 :: u34 :: u35 :: u36 :: u37 :: u38 :: u39 :: u40 :: u41 :: u42 :: u43 :: u44 :: u45 :: u46 :: u47 :: u48 :: u49 :: u50 :: u51 :: u52 :: u53 :: u54 :: u55 :: u56 :: u57 :: u58 :: u59 :: u60 :: u61 :: u62 :: u63 :: u64 :: u65 :: u66 :: u67 :: u68 :: u69 :: u70 :: u71 :: u72 :: u73 :: u74 :: u75 :: u76 :: u77 :: u78 :: u79 :: u80 :: u81 :: u82 :: u83 :: u84 :: u85 :: u86 :: u87 :: u88 :: u89 :: u90 :: u91 :: u92 :: u93 :: u94 :: u95 :: u96 :: u97 :: u98 :: u99 :: []), defers := [] } w := by
  subst hN hT
  refine Lands.of rfl ?_
  go_wp2
  rw [jumps_ret]
  unfold Q28
  go_ret2
  exact ⟨rfl, rfl⟩

theorem behind_lands (s : ByteArray) (at_ k : Nat) (n to_ N T : Int) (w : World) (hk : to_ = k) (ht : to_ ≤ 4611686018427387904) (hs : s.size ≤ 4611686018427387904) (n0 : 0 ≤ n) (n1 : n ≤ 4294967295)
    (hR : Res N T at_ (inW (atI (bs s) k) = true) n k) {u2 u3 u4 u5 u8 u9 u10 u11 u12 u13 u14 u15 u16 u17 u18 u19 u20 u21 u22 u23 u24 u25 u26 u27 u28 u29 u30 u31 u32 u33 u34 u35 u36 u37 u38 u39 u40 u41 u42 u43 u44 u45 u46 u47 u48 u49 u50 u51 u52 u53 u54 u55 u56 u57 u58 u59 u60 u61 u62 u63 u64 u65 u66 u67 u68 u69 u70 u71 u72 u73 u74 u75 u76 u77 u78 u79 u80 u81 u82 u83 u84 u85 u86 u87 u88 u89 u90 u91 u92 u93 u94 u95 u96 u97 u98 u99 : Value} :
    Lands Tryd.prog (scopeOf Tryd.f80) (Q28 N T w) 2 { tmps := List.toArray (.string s :: .int .i64 (at_ : Int) :: u2 :: u3 :: u4 :: u5 :: .int .u64 n :: .int .i64 to_ :: u8 :: u9 :: u10 :: u11 :: u12 :: u13 :: u14 :: u15 :: u16 :: u17 :: u18 :: u19 :: u20 :: u21 :: u22 :: u23 :: u24 :: u25 :: u26 :: u27 :: u28 :: u29 :: u30 :: u31 :: u32 :: u33 :: u34 :: u35 :: u36 :: u37 :: u38 :: u39 :: u40 :: u41 :: u42 :: u43 :: u44 :: u45 :: u46 :: u47 :: u48 :: u49 :: u50 :: u51 :: u52 :: u53 :: u54 :: u55 :: u56 :: u57 :: u58 :: u59 :: u60 :: u61 :: u62 :: u63 :: u64 :: u65 :: u66 :: u67 :: u68 :: u69 :: u70 :: u71 :: u72 :: u73 :: u74 :: u75 :: u76 :: u77 :: u78 :: u79 :: u80 :: u81 :: u82 :: u83 :: u84 :: u85 :: u86 :: u87 :: u88 :: u89 :: u90 :: u91 :: u92 :: u93 :: u94 :: u95 :: u96 :: u97 :: u98 :: u99 :: []), defers := [] } w := by
  have htn : to_.toNat = k := by omega
  have ht0 : 0 ≤ to_ := by omega
  rw [← htn] at hR
  cases hin : inW (atI (bs s) to_.toNat)
  · obtain ⟨hN, hT0⟩ := hR.good (by rw [hin]; simp)
    have hT : T = to_ := by omega
    clear hR htn hk hT0
    subst hN hT
    refine Lands.of rfl ?_
    go_wp2_with (first
      | (go_at_call 74; refine (byteAt_int _ _ (by omega) (by omega) (by assumption) _).mono ?_; rintro e w' ⟨rfl, rfl⟩)
      | (go_at_call 79; refine (inWord_any _ _).mono ?_; rintro e w' ⟨rfl, rfl⟩)
      | (go_at_call 77; refine (isDigit_any _ _).mono ?_; rintro e w' ⟨rfl, rfl⟩)
      | (go_at_call 98; refine (isHexDigit_any _ _).mono ?_; rintro e w' ⟨rfl, rfl⟩)
      | (go_at_call 99; refine (isQuotable_any _ _).mono ?_; rintro e w' ⟨rfl, rfl⟩)
      | (go_at_call 81; refine (digit_any _ (by assumption) _).mono ?_; rintro e w' ⟨rfl, rfl⟩))
    rw [jumps_ret]
    unfold Q28
    go_ret2
    exact ⟨rfl, rfl⟩
  · obtain ⟨hN, hT⟩ := hR.bad hin
    clear hR htn hk
    refine Lands.of rfl ?_
    go_wp2_with (first
      | (go_at_call 74; refine (byteAt_int _ _ (by omega) (by omega) (by assumption) _).mono ?_; rintro e w' ⟨rfl, rfl⟩)
      | (go_at_call 79; refine (inWord_any _ _).mono ?_; rintro e w' ⟨rfl, rfl⟩)
      | (go_at_call 77; refine (isDigit_any _ _).mono ?_; rintro e w' ⟨rfl, rfl⟩)
      | (go_at_call 98; refine (isHexDigit_any _ _).mono ?_; rintro e w' ⟨rfl, rfl⟩)
      | (go_at_call 99; refine (isQuotable_any _ _).mono ?_; rintro e w' ⟨rfl, rfl⟩)
      | (go_at_call 81; refine (digit_any _ (by assumption) _).mono ?_; rintro e w' ⟨rfl, rfl⟩))
    go_step3
    exact none_lands s at_ _ _ _ hN hT

theorem dec_lands (s : ByteArray) (at_ : Nat) (N T : Int) (w : World) (hs : s.size ≤ 4611686018427387800) :
    ∀ (m k : Nat) (to_ n : Int), to_ = k → k ≤ s.size → lenW isDig ((bs s).drop k) = m → 0 ≤ n → n ≤ 4294967295 →
    Res N T at_ (4294967295 < val 10 n (((bs s).drop k).take m) ∨ inW (atI (bs s) (k + m)) = true) (val 10 n (((bs s).drop k).take m)) (k + m) →
    ∀ {u2 u3 u4 u5 u8 u9 u10 u11 u12 u13 u14 u15 u16 u17 u18 u19 u20 u21 u22 u23 u24 u25 u26 u27 u28 u29 u30 u31 u32 u33 u34 u35 u36 u37 u38 u39 u40 u41 u42 u43 u44 u45 u46 u47 u48 u49 u50 u51 u52 u53 u54 u55 u56 u57 u58 u59 u60 u61 u62 u63 u64 u65 u66 u67 u68 u69 u70 u71 u72 u73 u74 u75 u76 u77 u78 u79 u80 u81 u82 u83 u84 u85 u86 u87 u88 u89 u90 u91 u92 u93 u94 u95 u96 u97 u98 u99 : Value}, Lands Tryd.prog (scopeOf Tryd.f80) (Q28 N T w) 4 { tmps := List.toArray (.string s :: .int .i64 (at_ : Int) :: u2 :: u3 :: u4 :: u5 :: .int .u64 n :: .int .i64 to_ :: u8 :: u9 :: u10 :: u11 :: u12 :: u13 :: u14 :: u15 :: u16 :: u17 :: u18 :: u19 :: u20 :: u21 :: u22 :: u23 :: u24 :: u25 :: u26 :: u27 :: u28 :: u29 :: u30 :: u31 :: u32 :: u33 :: u34 :: u35 :: u36 :: u37 :: u38 :: u39 :: u40 :: u41 :: u42 :: u43 :: u44 :: u45 :: u46 :: u47 :: u48 :: u49 :: u50 :: u51 :: u52 :: u53 :: u54 :: u55 :: u56 :: u57 :: u58 :: u59 :: u60 :: u61 :: u62 :: u63 :: u64 :: u65 :: u66 :: u67 :: u68 :: u69 :: u70 :: u71 :: u72 :: u73 :: u74 :: u75 :: u76 :: u77 :: u78 :: u79 :: u80 :: u81 :: u82 :: u83 :: u84 :: u85 :: u86 :: u87 :: u88 :: u89 :: u90 :: u91 :: u92 :: u93 :: u94 :: u95 :: u96 :: u97 :: u98 :: u99 :: []), defers := [] } w := by
  intro m
  induction m with
  | zero =>
    intro k to_ n hk hks hm n0 n1 hR
    intros
    have ht : to_.toNat = k := by omega
    have hd : isDig (atI (bs s) to_.toNat) = false := by
      cases h : isDig (atI (bs s) to_.toNat)
      · rfl
      · rw [ht] at h
        have := (lenW_more isDig isDig_zero ((bs s).drop k) (by rw [atI_drop]; exact h)).1
        omega
    have hs2 : s.size ≤ 4611686018427387904 := by omega
    rw [List.take_zero, val_nil, Nat.add_zero] at hR
    have hR2 := Hid.intro (hR.turn (bad' := inW (atI (bs s) k) = true) ⟨fun h => Or.inr h, fun h => h.resolve_left (by omega)⟩ rfl rfl)
    have h0 : 0 ≤ to_ := by omega
    have h1 : to_ ≤ 4611686018427387850 := by omega
    have hH := Hid.intro hk
    clear hR hm ht hk
    refine Lands.of rfl ?_
    go_wp2_with (first
      | (go_at_call 74; refine (byteAt_int _ _ (by omega) (by omega) (by assumption) _).mono ?_; rintro e w' ⟨rfl, rfl⟩)
      | (go_at_call 79; refine (inWord_any _ _).mono ?_; rintro e w' ⟨rfl, rfl⟩)
      | (go_at_call 77; refine (isDigit_any _ _).mono ?_; rintro e w' ⟨rfl, rfl⟩)
      | (go_at_call 98; refine (isHexDigit_any _ _).mono ?_; rintro e w' ⟨rfl, rfl⟩)
      | (go_at_call 99; refine (isQuotable_any _ _).mono ?_; rintro e w' ⟨rfl, rfl⟩)
      | (go_at_call 81; refine (digit_any _ (by assumption) _).mono ?_; rintro e w' ⟨rfl, rfl⟩))
    go_step3
    exact behind_lands s at_ k n to_ N T _ hH.out (by omega) hs2 n0 n1 hR2.out
  | succ m ih =>
    intro k to_ n hk hks hm n0 n1 hR
    intros
    have ht : to_.toNat = k := by omega
    have hd : isDig (atI (bs s) to_.toNat) = true := by
      cases h : isDig (atI (bs s) to_.toNat)
      · rw [ht] at h
        have := lenW_stop isDig ((bs s).drop k) (by rw [atI_drop]; exact h)
        omega
      · rfl
    have hx := isHex_of_dig _ hd
    obtain ⟨d0, d1⟩ := digI_dig _ hd
    have hhead : isDig (atI ((bs s).drop k) 0) = true := by rw [atI_drop]; rw [ht] at hd; exact hd
    obtain ⟨hl1, hl2⟩ := lenW_more isDig isDig_zero ((bs s).drop k) hhead
    rw [List.drop_drop] at hl1
    rw [List.length_drop, bs_length] at hl2
    have hm' : lenW isDig ((bs s).drop (k + 1)) = m := by omega
    have hv := take_more isDig isDig_zero ((bs s).drop k) hhead 10 n
    rw [hm, List.drop_drop, hm', atI_drop] at hv
    simp only [Nat.add_zero] at hv
    rw [hv, show k + (m + 1) = k + 1 + m by omega] at hR
    have hs2 : s.size ≤ 4611686018427387904 := by omega
    have h0 : 0 ≤ to_ := by omega
    have h1 : to_ ≤ 4611686018427387850 := by omega
    have hge := val_ge (10 * n + digI (atI (bs s) k)) (((bs s).drop (k + 1)).take m) (by rw [ht] at d0; omega) (by rw [← hm']; exact take_all _ _)
    obtain ⟨c, hc⟩ : ∃ c, c = atI (bs s) k := ⟨_, rfl⟩
    rw [ht, ← hc] at hd hx d0 d1
    rw [← hc] at hR hge
    have hH := Hid.intro hk
    have hH2 := Hid.intro hR
    have hH3 := Hid.intro hge
    have hc' : atI (bs s) to_.toNat = c := by rw [ht, hc]
    clear hR hm ht hk hge hl1 hhead hv hc
    refine Lands.of rfl ?_
    go_wp2_with (first
      | (go_at_call 74; refine (byteAt_int _ _ (by omega) (by omega) (by assumption) _).mono ?_; rintro e w' ⟨rfl, rfl⟩)
      | (go_at_call 79; refine (inWord_any _ _).mono ?_; rintro e w' ⟨rfl, rfl⟩)
      | (go_at_call 77; refine (isDigit_any _ _).mono ?_; rintro e w' ⟨rfl, rfl⟩)
      | (go_at_call 98; refine (isHexDigit_any _ _).mono ?_; rintro e w' ⟨rfl, rfl⟩)
      | (go_at_call 99; refine (isQuotable_any _ _).mono ?_; rintro e w' ⟨rfl, rfl⟩)
      | (go_at_call 81; refine (digit_any _ (by assumption) _).mono ?_; rintro e w' ⟨rfl, rfl⟩))
    · go_step3
      have hge := hH3.out
      obtain ⟨hN, hT⟩ := hH2.out.bad (Or.inl (by omega))
      exact none_lands s at_ _ _ _ hN hT
    · go_step3
      have hk := hH.out
      exact ih (k + 1) _ _ (by omega) (by omega) hm' (by omega) (by omega) hH2.out
end Go.Proofs.YtijdjljnppkhmaaDoor
