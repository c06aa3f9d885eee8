/- lex.Tokens: the tokens of a text: the contract. -/
import Derived.Test.YtijdjljnppkhmaaDoorTok3
namespace Go.Proofs.YtijdjljnppkhmaaDoor
open Go.ChangeShapes Go.WideShapes Go.ChangeAt Go.RowKit
set_option linter.unusedVariables false
set_option maxRecDepth 100000

theorem wp_label_code {P : Program} {c : Code} {l : Nat} {X rest : Code} {Q : Exit → Act → World → Prop} {a : Act} {w : World} (hX : findLabel c l = some (.seq .skip X)) (hf : findLabel c l = some (.seq .skip rest)) (h : rest.wp P Q a w) : X.wp P Q a w := by
  rw [hX] at hf
  cases hf
  exact h

theorem Lands.tail {P : Program} {c : Code} {l : Nat} {X : Code} {Q : Exit → Act → World → Prop} {a : Act} {w : World} (hX : findLabel c l = some (.seq .skip X)) (h : X.wp P (jumps (Lands P c Q) Q) a w) : Lands P c Q l a w :=
  Lands.of hX (wp_seq (wp_skip h))

theorem between_wp (X : Code) (hX : findLabel (scopeOf Tryd.f59) 0 = some (.seq .skip X)) (s : ByteArray) (B : Nat) (w0 : World) (R : Except Nat (List Tok)) (hs : s.size ≤ 1100000) :
    ∀ (m at_ : Nat) (acc : List Tok) (v : Value) (w : World), s.size - at_ = m → at_ ≤ s.size → acc.length ≤ at_ → R = ext acc (scan ((bs s).drop at_) at_) →
    w.ownsRow B 42 4 v acc.length (rowOf acc) → Below B w0 w → B ≤ w.heap.size →
    ∀ {u1 u2 u3 u4 u6 u8 u9 u10 u11 u12 u13 u14 u15 u16 u17 u18 u19 u20 u21 u22 u23 u24 u25 u26 u27 u28 u29 u30 u31 u32 u33 u34 u35 u36 u37 u38 u39 u40 u41 u42 u43 u44 u45 u46 u47 u48 u49 u50 u51 u52 u53 u54 u55 u56 u57 u58 u59 u60 u61 u62 u63 u64 u65 u66 u67 u68 u69 u70 u71 u72 u73 u74 u75 : Value}, Code.wp Tryd.prog X (jumps (Lands Tryd.prog (scopeOf Tryd.f59) (Q9 B w0 R)) (Q9 B w0 R)) { tmps := List.toArray (.string s :: u1 :: u2 :: u3 :: u4 :: v :: u6 :: .int .i64 (at_ : Int) :: u8 :: u9 :: u10 :: u11 :: u12 :: u13 :: u14 :: u15 :: u16 :: u17 :: u18 :: u19 :: u20 :: u21 :: u22 :: u23 :: u24 :: u25 :: u26 :: u27 :: u28 :: u29 :: u30 :: u31 :: u32 :: u33 :: u34 :: u35 :: u36 :: u37 :: u38 :: u39 :: u40 :: u41 :: u42 :: u43 :: u44 :: u45 :: u46 :: u47 :: u48 :: u49 :: u50 :: u51 :: u52 :: u53 :: u54 :: u55 :: u56 :: u57 :: u58 :: u59 :: u60 :: u61 :: u62 :: u63 :: u64 :: u65 :: u66 :: u67 :: u68 :: u69 :: u70 :: u71 :: u72 :: u73 :: u74 :: u75 :: []), defers := [] } w := by
  intro m
  induction m using Nat.strongRecOn with
  | _ m ih0 =>
    have ih : ∀ (m' : Nat), m' < m → ∀ (at_ : Nat) (acc : List Tok) (v : Value) (w : World), s.size - at_ = m' → at_ ≤ s.size → acc.length ≤ at_ → R = ext acc (scan ((bs s).drop at_) at_) →
        w.ownsRow B 42 4 v acc.length (rowOf acc) → Below B w0 w → B ≤ w.heap.size →
        ∀ {u1 u2 u3 u4 u6 u8 u9 u10 u11 u12 u13 u14 u15 u16 u17 u18 u19 u20 u21 u22 u23 u24 u25 u26 u27 u28 u29 u30 u31 u32 u33 u34 u35 u36 u37 u38 u39 u40 u41 u42 u43 u44 u45 u46 u47 u48 u49 u50 u51 u52 u53 u54 u55 u56 u57 u58 u59 u60 u61 u62 u63 u64 u65 u66 u67 u68 u69 u70 u71 u72 u73 u74 u75 : Value}, Lands Tryd.prog (scopeOf Tryd.f59) (Q9 B w0 R) 0 { tmps := List.toArray (.string s :: u1 :: u2 :: u3 :: u4 :: v :: u6 :: .int .i64 (at_ : Int) :: u8 :: u9 :: u10 :: u11 :: u12 :: u13 :: u14 :: u15 :: u16 :: u17 :: u18 :: u19 :: u20 :: u21 :: u22 :: u23 :: u24 :: u25 :: u26 :: u27 :: u28 :: u29 :: u30 :: u31 :: u32 :: u33 :: u34 :: u35 :: u36 :: u37 :: u38 :: u39 :: u40 :: u41 :: u42 :: u43 :: u44 :: u45 :: u46 :: u47 :: u48 :: u49 :: u50 :: u51 :: u52 :: u53 :: u54 :: u55 :: u56 :: u57 :: u58 :: u59 :: u60 :: u61 :: u62 :: u63 :: u64 :: u65 :: u66 :: u67 :: u68 :: u69 :: u70 :: u71 :: u72 :: u73 :: u74 :: u75 :: []), defers := [] } w := by
      intro m' hm' at_ acc v w h1 h2 h3 h4 h5 h6 h7
      intros
      exact Lands.tail hX (ih0 m' hm' at_ acc v w h1 h2 h3 h4 h5 h6 h7)
    clear ih0
    have hXH := Hid.intro hX
    clear hX
    intro at_ acc v w hm hat hacc hR hown hbel hB
    intros
    have hm' := hm.symm
    subst hm'
    by_cases hend : at_ = s.size
    · have hRe : R = .ok acc := by
        rw [hR, scan_end (bs s) at_ (by rw [bs_length]; omega)]
        simp [ext]
      have he : ((at_ : Int) == (s.size : Int)) = true := by simp [hend]
      have hH := Hid.intro hend
      clear ih hR hm hend
      subst hRe
      refine wp_label_code hXH.out rfl ?_
      go_wp2_with (first
      | (go_at_call 74; refine (byteAt_any _ _ (by omega) (by omega) _).mono ?_; rintro e w' ⟨rfl, rfl⟩)
      | (go_at_call 75; refine (isBlank_any _ _).mono ?_; rintro e w' ⟨rfl, rfl⟩)
      | (go_at_call 76; refine (isLetter_any _ _).mono ?_; rintro e w' ⟨rfl, rfl⟩)
      | (go_at_call 77; refine (isDigit_any _ _).mono ?_; rintro e w' ⟨rfl, rfl⟩)
      | (go_at_call 78; refine (isSign_any _ (by assumption) (by assumption) _).mono ?_; rintro e w' ⟨rfl, rfl⟩)
      | (go_at_call 79; refine (inWord_any _ _).mono ?_; rintro e w' ⟨rfl, rfl⟩))
      rw [jumps_ret]
      unfold Q9
      go_ret3
      exact ⟨hbel, v, rfl, hown⟩
    · have hlt : at_ < s.size := by omega
      have hll : at_ < (bs s).length := by rw [bs_length]; exact hlt
      have he : ((at_ : Int) == (s.size : Int)) = false := by simp; omega
      obtain ⟨c, hc⟩ : ∃ c, c = atI (bs s) at_ := ⟨_, rfl⟩
      have c0 : 0 ≤ c := by rw [hc]; exact atI_lo _ _
      have c1 : c ≤ 255 := by rw [hc]; exact atI_hi _ _
      have hc' := hc.symm
      have hr0 : atI ((bs s).drop at_) 0 = c := by rw [atI_drop, Nat.add_zero]; exact hc'
      have hnextA : c ≠ 59 → isBl c = false → ∀ (kind n : Int) (k : Nat), tokAt ((bs s).drop at_) = some (kind, n, k) → ∀ (p : Nat), p = at_ + k → ∀ (w' : World) (v' : Value),
          w'.ownsRow B 42 4 v' (acc.length + 1) (rowOf (acc ++ [{ kind := kind, text := ((bs s).drop at_).take k, num := n, place := at_ }])) → Below B w0 w' → B ≤ w'.heap.size →
          ∀ {u1 u2 u3 u4 u6 u8 u9 u10 u11 u12 u13 u14 u15 u16 u17 u18 u19 u20 u21 u22 u23 u24 u25 u26 u27 u28 u29 u30 u31 u32 u33 u34 u35 u36 u37 u38 u39 u40 u41 u42 u43 u44 u45 u46 u47 u48 u49 u50 u51 u52 u53 u54 u55 u56 u57 u58 u59 u60 u61 u62 u63 u64 u65 u66 u67 u68 u69 u70 u71 u72 u73 u74 u75 : Value}, Lands Tryd.prog (scopeOf Tryd.f59) (Q9 B w0 R) 0 { tmps := List.toArray (.string s :: u1 :: u2 :: u3 :: u4 :: v' :: u6 :: .int .i64 (p : Int) :: u8 :: u9 :: u10 :: u11 :: u12 :: u13 :: u14 :: u15 :: u16 :: u17 :: u18 :: u19 :: u20 :: u21 :: u22 :: u23 :: u24 :: u25 :: u26 :: u27 :: u28 :: u29 :: u30 :: u31 :: u32 :: u33 :: u34 :: u35 :: u36 :: u37 :: u38 :: u39 :: u40 :: u41 :: u42 :: u43 :: u44 :: u45 :: u46 :: u47 :: u48 :: u49 :: u50 :: u51 :: u52 :: u53 :: u54 :: u55 :: u56 :: u57 :: u58 :: u59 :: u60 :: u61 :: u62 :: u63 :: u64 :: u65 :: u66 :: u67 :: u68 :: u69 :: u70 :: u71 :: u72 :: u73 :: u74 :: u75 :: []), defers := [] } w' := by
        intro h59 hbl kind n k hta p hp w' v' ho hb' hB'
        have hk := tokAt_some _ _ _ _ hta
        rw [List.length_drop, bs_length] at hk
        have hR2 : R = ext (acc ++ [{ kind := kind, text := ((bs s).drop at_).take k, num := n, place := at_ }]) (scan ((bs s).drop p) p) := by
          rw [hR, scan_tok (bs s) at_ hll (by rw [hc']; exact h59) (by rw [hc']; exact hbl) _ _ _ hta, ext_ext, hp]
        have hl : (acc ++ [({ kind := kind, text := ((bs s).drop at_).take k, num := n, place := at_ } : Tok)]).length = acc.length + 1 := by simp
        rw [← hl] at ho
        intros
        exact ih (s.size - p) (by omega) p _ v' w' rfl (by omega) (by rw [hl]; omega) hR2 ho hb' hB'
      have hwrongA : c ≠ 59 → isBl c = false → tokAt ((bs s).drop at_) = none → R = .error at_ := by
        intro h59 hbl hta
        rw [hR, scan_wrong (bs s) at_ hll (by rw [hc']; exact h59) (by rw [hc']; exact hbl) hta]
        rfl
      by_cases h59 : c = 59
      · have hRe : R = .ok acc := by
          rw [hR, scan_remark (bs s) at_ hll (by rw [hc', h59])]
          simp [ext]
        have h59' : (c == 59) = true := by simp [h59]
        clear ih hR hm hc hr0 h59 hend hnextA hwrongA
        subst hRe
        refine wp_label_code hXH.out rfl ?_
        go_wp2_with (first
      | (go_at_call 74; refine (byteAt_any _ _ (by omega) (by omega) _).mono ?_; rintro e w' ⟨rfl, rfl⟩)
      | (go_at_call 75; refine (isBlank_any _ _).mono ?_; rintro e w' ⟨rfl, rfl⟩)
      | (go_at_call 76; refine (isLetter_any _ _).mono ?_; rintro e w' ⟨rfl, rfl⟩)
      | (go_at_call 77; refine (isDigit_any _ _).mono ?_; rintro e w' ⟨rfl, rfl⟩)
      | (go_at_call 78; refine (isSign_any _ (by assumption) (by assumption) _).mono ?_; rintro e w' ⟨rfl, rfl⟩)
      | (go_at_call 79; refine (inWord_any _ _).mono ?_; rintro e w' ⟨rfl, rfl⟩))
        rw [jumps_ret]
        unfold Q9
        go_ret3
        exact ⟨hbel, v, rfl, hown⟩
      · have h59' : (c == 59) = false := by simp [h59]
        cases hbl : isBl c
        · have hnext := Hid.intro (hnextA h59 hbl)
          have hwrong := Hid.intro (hwrongA h59 hbl)
          have hr0H := Hid.intro hr0
          have hcH := Hid.intro h59
          clear hnextA hwrongA ih hm hR hc hr0 h59 hend
          cases hle : isLet c
          · have hnum : Hid ((isDig c = true ∨ c = 39) → ∀ {u1 u2 u3 u4 u6 u8 u10 u11 u12 u13 u14 u15 u16 u17 u18 u19 u20 u21 u22 u23 u24 u25 u26 u27 u28 u29 u30 u31 u32 u33 u34 u35 u36 u37 u38 u39 u40 u41 u42 u43 u44 u45 u46 u47 u48 u49 u50 u51 u52 u53 u54 u55 u56 u57 u58 u59 u60 u61 u62 u63 u64 u65 u66 u67 u68 u69 u70 u71 u72 u73 u74 u75 : Value}, Lands Tryd.prog (scopeOf Tryd.f59) (Q9 B w0 R) 2 { tmps := List.toArray (.string s :: u1 :: u2 :: u3 :: u4 :: v :: u6 :: .int .i64 (at_ : Int) :: u8 :: .int .i64 2 :: u10 :: u11 :: u12 :: u13 :: u14 :: u15 :: u16 :: u17 :: u18 :: u19 :: u20 :: u21 :: u22 :: u23 :: u24 :: u25 :: u26 :: u27 :: u28 :: u29 :: u30 :: u31 :: u32 :: u33 :: u34 :: u35 :: u36 :: u37 :: u38 :: u39 :: u40 :: u41 :: u42 :: u43 :: u44 :: u45 :: u46 :: u47 :: u48 :: u49 :: u50 :: u51 :: u52 :: u53 :: u54 :: u55 :: u56 :: u57 :: u58 :: u59 :: u60 :: u61 :: u62 :: u63 :: u64 :: u65 :: u66 :: u67 :: u68 :: u69 :: u70 :: u71 :: u72 :: u73 :: u74 :: u75 :: []), defers := [] } w) := by
              intro hd
              have hta : tokAt ((bs s).drop at_) = if numL ((bs s).drop at_) = 0 then none else some (2, numN ((bs s).drop at_), numL ((bs s).drop at_)) := by
                unfold tokAt; rw [hr0H.out, if_neg (by rw [hle]; simp), if_pos hd]
              intros
              exact number_lands s B w0 w R hs acc v at_ hlt (by rw [hc']; exact hd) hacc hown hbel hB
                (fun h0 => hwrong.out (by rw [hta, if_pos h0]))
                (fun h0 p hp w' v' ho hb' hB' => hnext.out _ _ _ (by rw [hta, if_neg h0]) p hp w' v' ho hb' hB')
            cases hdi : isDig c
            · by_cases hq : c = 39
              · have hq' : (c == 39) = true := by simp [hq]
                have hqH := Hid.intro hq
                clear hq
                refine wp_label_code hXH.out rfl ?_
                go_wp2_with (first
      | (go_at_call 74; refine (byteAt_any _ _ (by omega) (by omega) _).mono ?_; rintro e w' ⟨rfl, rfl⟩)
      | (go_at_call 75; refine (isBlank_any _ _).mono ?_; rintro e w' ⟨rfl, rfl⟩)
      | (go_at_call 76; refine (isLetter_any _ _).mono ?_; rintro e w' ⟨rfl, rfl⟩)
      | (go_at_call 77; refine (isDigit_any _ _).mono ?_; rintro e w' ⟨rfl, rfl⟩)
      | (go_at_call 78; refine (isSign_any _ (by assumption) (by assumption) _).mono ?_; rintro e w' ⟨rfl, rfl⟩)
      | (go_at_call 79; refine (inWord_any _ _).mono ?_; rintro e w' ⟨rfl, rfl⟩))
                go_step3
                exact hnum.out (Or.inr hqH.out)
              · have hq' : (c == 39) = false := by simp [hq]
                have hqH := Hid.intro hq
                clear hq
                have hta : tokAt ((bs s).drop at_) = if isSg c = true then some (3, 0, 1) else none := by
                  unfold tokAt; rw [hr0H.out, if_neg (by rw [hle]; simp), if_neg (by rw [hdi]; simp; exact hqH.out)]
                have htaH := Hid.intro hta
                clear hta hnum
                cases hsg : isSg c
                · have hRe := hwrong.out (by rw [htaH.out, hsg]; simp)
                  clear hwrong hnext htaH
                  subst hRe
                  refine wp_label_code hXH.out rfl ?_
                  go_wp2_with (first
      | (go_at_call 74; refine (byteAt_any _ _ (by omega) (by omega) _).mono ?_; rintro e w' ⟨rfl, rfl⟩)
      | (go_at_call 75; refine (isBlank_any _ _).mono ?_; rintro e w' ⟨rfl, rfl⟩)
      | (go_at_call 76; refine (isLetter_any _ _).mono ?_; rintro e w' ⟨rfl, rfl⟩)
      | (go_at_call 77; refine (isDigit_any _ _).mono ?_; rintro e w' ⟨rfl, rfl⟩)
      | (go_at_call 78; refine (isSign_any _ (by assumption) (by assumption) _).mono ?_; rintro e w' ⟨rfl, rfl⟩)
      | (go_at_call 79; refine (inWord_any _ _).mono ?_; rintro e w' ⟨rfl, rfl⟩))
                  go_step3
                  go_wp2
                  rw [jumps_ret]
                  unfold Q9
                  go_ret3
                  exact ⟨hbel, rfl⟩
                · refine wp_label_code hXH.out rfl ?_
                  go_wp2_with (first
      | (go_at_call 74; refine (byteAt_any _ _ (by omega) (by omega) _).mono ?_; rintro e w' ⟨rfl, rfl⟩)
      | (go_at_call 75; refine (isBlank_any _ _).mono ?_; rintro e w' ⟨rfl, rfl⟩)
      | (go_at_call 76; refine (isLetter_any _ _).mono ?_; rintro e w' ⟨rfl, rfl⟩)
      | (go_at_call 77; refine (isDigit_any _ _).mono ?_; rintro e w' ⟨rfl, rfl⟩)
      | (go_at_call 78; refine (isSign_any _ (by assumption) (by assumption) _).mono ?_; rintro e w' ⟨rfl, rfl⟩)
      | (go_at_call 79; refine (inWord_any _ _).mono ?_; rintro e w' ⟨rfl, rfl⟩))
                  go_step3
                  exact whole_lands s B w0 _ R hs acc v 0 _ 3 at_ (at_ + 1) (by omega) (by omega) (by omega) hacc hown hbel hB (fun w' v' ho hb' hB' => hnext.out 3 0 1 (by rw [htaH.out, hsg]; simp) (at_ + 1) rfl w' v' (by rw [show at_ + 1 - at_ = 1 by omega] at ho; exact ho) hb' hB')
            · have hd2 : isDig c = true := hdi
              refine wp_label_code hXH.out rfl ?_
              go_wp2_with (first
      | (go_at_call 74; refine (byteAt_any _ _ (by omega) (by omega) _).mono ?_; rintro e w' ⟨rfl, rfl⟩)
      | (go_at_call 75; refine (isBlank_any _ _).mono ?_; rintro e w' ⟨rfl, rfl⟩)
      | (go_at_call 76; refine (isLetter_any _ _).mono ?_; rintro e w' ⟨rfl, rfl⟩)
      | (go_at_call 77; refine (isDigit_any _ _).mono ?_; rintro e w' ⟨rfl, rfl⟩)
      | (go_at_call 78; refine (isSign_any _ (by assumption) (by assumption) _).mono ?_; rintro e w' ⟨rfl, rfl⟩)
      | (go_at_call 79; refine (inWord_any _ _).mono ?_; rintro e w' ⟨rfl, rfl⟩))
              go_step3
              exact hnum.out (Or.inl (by assumption))
          · have hta : tokAt ((bs s).drop at_) = if lenW inW ((bs s).drop at_) ≤ 32 then some (1, 0, lenW inW ((bs s).drop at_)) else none := by
              unfold tokAt; rw [hr0H.out, if_pos hle]
            obtain ⟨hl1, hl2⟩ := lenW_more inW inW_zero ((bs s).drop at_) (by rw [hr0H.out]; exact inW_of_let _ hle)
            rw [List.drop_drop] at hl1
            have hl3 := lenW_le inW ((bs s).drop at_)
            rw [List.length_drop, bs_length] at hl3
            obtain ⟨L, hL⟩ : ∃ L, L = lenW inW ((bs s).drop at_) := ⟨_, rfl⟩
            rw [← hL] at hta hl1 hl3
            have hl4 : lenW inW ((bs s).drop (at_ + 1)) = L - 1 := by omega
            have hL1 : 1 ≤ L := by omega
            have htaH := Hid.intro hta
            have hl4H := Hid.intro hl4
            clear hta hl1 hl2 hL hl4
            refine wp_label_code hXH.out rfl ?_
            go_wp2_with (first
      | (go_at_call 74; refine (byteAt_any _ _ (by omega) (by omega) _).mono ?_; rintro e w' ⟨rfl, rfl⟩)
      | (go_at_call 75; refine (isBlank_any _ _).mono ?_; rintro e w' ⟨rfl, rfl⟩)
      | (go_at_call 76; refine (isLetter_any _ _).mono ?_; rintro e w' ⟨rfl, rfl⟩)
      | (go_at_call 77; refine (isDigit_any _ _).mono ?_; rintro e w' ⟨rfl, rfl⟩)
      | (go_at_call 78; refine (isSign_any _ (by assumption) (by assumption) _).mono ?_; rintro e w' ⟨rfl, rfl⟩)
      | (go_at_call 79; refine (inWord_any _ _).mono ?_; rintro e w' ⟨rfl, rfl⟩))
            go_step3
            refine name_lands s B w0 _ R hs v 0 1 at_ (at_ + L) (by omega) (by omega) hbel ?_ ?_ (L - 1) (at_ + 1) (by have := hl4H.out; omega) (by have := hl4H.out; omega) (by omega) hl4H.out
            · intro h32
              intros
              exact whole_lands s B w0 _ R hs acc v 0 _ 1 at_ (at_ + L) rfl (by omega) (by omega) hacc hown hbel hB (fun w' v' ho hb' hB' => hnext.out 1 0 L (by rw [htaH.out, if_pos (by omega)]) (at_ + L) rfl w' v' (by rw [show at_ + L - at_ = L by omega] at ho; exact ho) hb' hB')
            · intro h32
              exact hwrong.out (by rw [htaH.out, if_neg (by omega)])
        · have hRe : R = ext acc (scan ((bs s).drop (at_ + 1)) (at_ + 1)) := by rw [hR, scan_blank (bs s) at_ hll (by rw [hc']; exact hbl)]
          have hH := Hid.intro hRe
          clear hR hRe hc hr0 h59 hm hend hnextA hwrongA
          refine wp_label_code hXH.out rfl ?_
          go_wp2_with (first
      | (go_at_call 74; refine (byteAt_any _ _ (by omega) (by omega) _).mono ?_; rintro e w' ⟨rfl, rfl⟩)
      | (go_at_call 75; refine (isBlank_any _ _).mono ?_; rintro e w' ⟨rfl, rfl⟩)
      | (go_at_call 76; refine (isLetter_any _ _).mono ?_; rintro e w' ⟨rfl, rfl⟩)
      | (go_at_call 77; refine (isDigit_any _ _).mono ?_; rintro e w' ⟨rfl, rfl⟩)
      | (go_at_call 78; refine (isSign_any _ (by assumption) (by assumption) _).mono ?_; rintro e w' ⟨rfl, rfl⟩)
      | (go_at_call 79; refine (inWord_any _ _).mono ?_; rintro e w' ⟨rfl, rfl⟩))
          go_step3
          exact ih (s.size - (at_ + 1)) (by omega) (at_ + 1) acc v _ rfl (by omega) (by omega) hH.out hown hbel hB

theorem tokens_any (s : ByteArray) (hs : s.size ≤ 1100000) (w : World) :
    Calls Tryd.prog 59 #[.string s] w fun e w' => Out w.heap.size w (scan (bs s) 0) e w' := by
  obtain ⟨R, hR⟩ : ∃ R, R = scan (bs s) 0 := ⟨_, rfl⟩
  rw [← hR]
  have hH := Hid.intro hR
  clear hR
  have hcal : Below w.heap.size w w := Below.refl _ _
  have hnil : w.ownsRow w.heap.size 42 4 (.slice none 0 0) ([] : List Tok).length (rowOf []) := World.ownsRow_nil _ _ _ _
  go_enter Tryd.func59, Tryd.ntmps59
  go_wp2
  refine wp_scope_at (Q := Q9 w.heap.size w R) Tryd.f59 rfl ?_
  go_wp2
  go_step3
  rename_i K hK
  exact hK _ _ (between_wp _ rfl s w.heap.size w R hs (s.size - 0) 0 [] _ w rfl (by omega) (by simp) (by rw [List.drop_zero, ext_nil]; exact hH.out) hnil hcal (Nat.le_refl _))
end Go.Proofs.YtijdjljnppkhmaaDoor
