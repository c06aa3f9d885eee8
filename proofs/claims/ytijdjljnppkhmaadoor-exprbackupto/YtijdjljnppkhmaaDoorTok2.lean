/- lex.Tokens: the tokens of a text: its states. -/
import Derived.Test.YtijdjljnppkhmaaDoorTok
import Derived.Test.YtijdjljnppkhmaaDoorSpec2
namespace Go.Proofs.YtijdjljnppkhmaaDoor
open Go.ChangeShapes Go.WideShapes Go.ChangeAt Go.RowKit
set_option linter.unusedVariables false
set_option maxRecDepth 100000

theorem wrong_lands (s : ByteArray) (B : Nat) (w0 w : World) (R : Except Nat (List Tok)) (at_ : Nat) (hR : R = .error at_) (hbel : Below B w0 w) {u1 u2 u3 u4 u5 u6 u8 u9 u10 u11 u12 u13 u14 u15 u16 u17 u18 u19 u20 u21 u22 u23 u24 u25 u26 u27 u28 u29 u30 u31 u32 u33 u34 u35 u36 u37 u38 u39 u40 u41 u42 u43 u44 u45 u46 u47 u48 u49 u50 u51 u52 u53 u54 u55 u56 u57 u58 u59 u60 u61 u62 u63 u64 u65 u66 u67 u68 u69 u70 u71 u72 u73 u74 u75 : Value} :
    Lands Tryd.prog (scopeOf Tryd.f59) (Q9 B w0 R) 4 { tmps := List.toArray (.string s :: u1 :: u2 :: u3 :: u4 :: u5 :: u6 :: .int .i64 (at_ : Int) :: u8 :: u9 :: u10 :: u11 :: u12 :: u13 :: u14 :: u15 :: u16 :: u17 :: u18 :: u19 :: u20 :: u21 :: u22 :: u23 :: u24 :: u25 :: u26 :: u27 :: u28 :: u29 :: u30 :: u31 :: u32 :: u33 :: u34 :: u35 :: u36 :: u37 :: u38 :: u39 :: u40 :: u41 :: u42 :: u43 :: u44 :: u45 :: u46 :: u47 :: u48 :: u49 :: u50 :: u51 :: u52 :: u53 :: u54 :: u55 :: u56 :: u57 :: u58 :: u59 :: u60 :: u61 :: u62 :: u63 :: u64 :: u65 :: u66 :: u67 :: u68 :: u69 :: u70 :: u71 :: u72 :: u73 :: u74 :: u75 :: []), defers := [] } w := by
  subst hR
  refine Lands.of rfl ?_
  go_wp2
  rw [jumps_ret]
  unfold Q9
  go_ret3
  exact ⟨hbel, rfl⟩

theorem name_lands (s : ByteArray) (B : Nat) (w0 w : World) (R : Except Nat (List Tok)) (hs : s.size ≤ 1100000) (v : Value) (n kind : Int) (at_ E : Nat) (hat : at_ ≤ E) (hE : E ≤ s.size) (hbel : Below B w0 w)
    (hgood : Hid (E - at_ ≤ 32 → ∀ {u1 u2 u3 u4 u10 u11 u12 u13 u14 u15 u16 u17 u18 u19 u20 u21 u22 u23 u24 u25 u26 u27 u28 u29 u30 u31 u32 u33 u34 u35 u36 u37 u38 u39 u40 u41 u42 u43 u44 u45 u46 u47 u48 u49 u50 u51 u52 u53 u54 u55 u56 u57 u58 u59 u60 u61 u62 u63 u64 u65 u66 u67 u68 u69 u70 u71 u72 u73 u74 u75 : Value}, Lands Tryd.prog (scopeOf Tryd.f59) (Q9 B w0 R) 3 { tmps := List.toArray (.string s :: u1 :: u2 :: u3 :: u4 :: v :: .int .u32 n :: .int .i64 (at_ : Int) :: .int .i64 (E : Int) :: .int .i64 kind :: u10 :: u11 :: u12 :: u13 :: u14 :: u15 :: u16 :: u17 :: u18 :: u19 :: u20 :: u21 :: u22 :: u23 :: u24 :: u25 :: u26 :: u27 :: u28 :: u29 :: u30 :: u31 :: u32 :: u33 :: u34 :: u35 :: u36 :: u37 :: u38 :: u39 :: u40 :: u41 :: u42 :: u43 :: u44 :: u45 :: u46 :: u47 :: u48 :: u49 :: u50 :: u51 :: u52 :: u53 :: u54 :: u55 :: u56 :: u57 :: u58 :: u59 :: u60 :: u61 :: u62 :: u63 :: u64 :: u65 :: u66 :: u67 :: u68 :: u69 :: u70 :: u71 :: u72 :: u73 :: u74 :: u75 :: []), defers := [] } w))
    (hbad : Hid (32 < E - at_ → R = .error at_)) :
    ∀ (m k : Nat), k ≤ E → k + m = E → at_ ≤ k → lenW inW ((bs s).drop k) = m →
    ∀ {u1 u2 u3 u4 u10 u11 u12 u13 u14 u15 u16 u17 u18 u19 u20 u21 u22 u23 u24 u25 u26 u27 u28 u29 u30 u31 u32 u33 u34 u35 u36 u37 u38 u39 u40 u41 u42 u43 u44 u45 u46 u47 u48 u49 u50 u51 u52 u53 u54 u55 u56 u57 u58 u59 u60 u61 u62 u63 u64 u65 u66 u67 u68 u69 u70 u71 u72 u73 u74 u75 : Value}, Lands Tryd.prog (scopeOf Tryd.f59) (Q9 B w0 R) 1 { tmps := List.toArray (.string s :: u1 :: u2 :: u3 :: u4 :: v :: .int .u32 n :: .int .i64 (at_ : Int) :: .int .i64 (k : Int) :: .int .i64 kind :: u10 :: u11 :: u12 :: u13 :: u14 :: u15 :: u16 :: u17 :: u18 :: u19 :: u20 :: u21 :: u22 :: u23 :: u24 :: u25 :: u26 :: u27 :: u28 :: u29 :: u30 :: u31 :: u32 :: u33 :: u34 :: u35 :: u36 :: u37 :: u38 :: u39 :: u40 :: u41 :: u42 :: u43 :: u44 :: u45 :: u46 :: u47 :: u48 :: u49 :: u50 :: u51 :: u52 :: u53 :: u54 :: u55 :: u56 :: u57 :: u58 :: u59 :: u60 :: u61 :: u62 :: u63 :: u64 :: u65 :: u66 :: u67 :: u68 :: u69 :: u70 :: u71 :: u72 :: u73 :: u74 :: u75 :: []), defers := [] } w := by
  intro m
  induction m with
  | zero =>
    intro k hk hm hak hl
    intros
    have e : k = E := by omega
    subst e
    have hin : inW (atI (bs s) k) = false := by
      cases h : inW (atI (bs s) k)
      · rfl
      · have := (lenW_more inW inW_zero ((bs s).drop k) (by rw [atI_drop]; exact h)).1
        omega
    clear hl
    by_cases hb : 32 < k - at_
    · have hR := hbad.out hb
      have hlt : (32 : Int) < (k : Int) - (at_ : Int) := by omega
      clear hgood hbad hb
      subst hR
      refine Lands.of rfl ?_
      go_wp2_with (first
      | (go_at_call 74; refine (byteAt_any _ _ (by omega) (by omega) _).mono ?_; rintro e w' ⟨rfl, rfl⟩)
      | (go_at_call 75; refine (isBlank_any _ _).mono ?_; rintro e w' ⟨rfl, rfl⟩)
      | (go_at_call 76; refine (isLetter_any _ _).mono ?_; rintro e w' ⟨rfl, rfl⟩)
      | (go_at_call 77; refine (isDigit_any _ _).mono ?_; rintro e w' ⟨rfl, rfl⟩)
      | (go_at_call 78; refine (isSign_any _ (by assumption) (by assumption) _).mono ?_; rintro e w' ⟨rfl, rfl⟩)
      | (go_at_call 79; refine (inWord_any _ _).mono ?_; rintro e w' ⟨rfl, rfl⟩))
      go_step3
      exact wrong_lands s B w0 w' _ at_ rfl hbel
    · have hlt : (k : Int) - (at_ : Int) ≤ 32 := by omega
      refine Lands.of rfl ?_
      go_wp2_with (first
      | (go_at_call 74; refine (byteAt_any _ _ (by omega) (by omega) _).mono ?_; rintro e w' ⟨rfl, rfl⟩)
      | (go_at_call 75; refine (isBlank_any _ _).mono ?_; rintro e w' ⟨rfl, rfl⟩)
      | (go_at_call 76; refine (isLetter_any _ _).mono ?_; rintro e w' ⟨rfl, rfl⟩)
      | (go_at_call 77; refine (isDigit_any _ _).mono ?_; rintro e w' ⟨rfl, rfl⟩)
      | (go_at_call 78; refine (isSign_any _ (by assumption) (by assumption) _).mono ?_; rintro e w' ⟨rfl, rfl⟩)
      | (go_at_call 79; refine (inWord_any _ _).mono ?_; rintro e w' ⟨rfl, rfl⟩))
      go_step3
      exact hgood.out (by omega)
  | succ m ih =>
    intro k hk hm hak hl
    intros
    have hin : inW (atI (bs s) k) = true := by
      cases h : inW (atI (bs s) k)
      · have := lenW_stop inW ((bs s).drop k) (by rw [atI_drop]; exact h)
        omega
      · rfl
    have hl1 := (lenW_more inW inW_zero ((bs s).drop k) (by rw [atI_drop]; exact hin)).1
    rw [List.drop_drop] at hl1
    have hl2 : lenW inW ((bs s).drop (k + 1)) = m := by omega
    have hH := Hid.intro hl2
    clear hl hl1 hl2
    refine Lands.of rfl ?_
    go_wp2_with (first
      | (go_at_call 74; refine (byteAt_any _ _ (by omega) (by omega) _).mono ?_; rintro e w' ⟨rfl, rfl⟩)
      | (go_at_call 75; refine (isBlank_any _ _).mono ?_; rintro e w' ⟨rfl, rfl⟩)
      | (go_at_call 76; refine (isLetter_any _ _).mono ?_; rintro e w' ⟨rfl, rfl⟩)
      | (go_at_call 77; refine (isDigit_any _ _).mono ?_; rintro e w' ⟨rfl, rfl⟩)
      | (go_at_call 78; refine (isSign_any _ (by assumption) (by assumption) _).mono ?_; rintro e w' ⟨rfl, rfl⟩)
      | (go_at_call 79; refine (inWord_any _ _).mono ?_; rintro e w' ⟨rfl, rfl⟩))
    go_step3
    exact ih (k + 1) (by omega) (by omega) (by omega) hH.out
end Go.Proofs.YtijdjljnppkhmaaDoor
