/- lex.Tokens: the tokens of a text: the contract. -/
import Derived.Test.YtijdjljnppkhmaaDoorTok2
namespace Go.Proofs.YtijdjljnppkhmaaDoor
open Go.ChangeShapes Go.WideShapes Go.ChangeAt Go.RowKit
set_option linter.unusedVariables false
set_option maxRecDepth 100000

theorem number_lands (s : ByteArray) (B : Nat) (w0 w : World) (R : Except Nat (List Tok)) (hs : s.size ≤ 1100000) (acc : List Tok) (v : Value) (at_ : Nat)
    (h1 : at_ < s.size) (hd : isDig (atI (bs s) at_) = true ∨ atI (bs s) at_ = 39) (hacc : acc.length ≤ at_) (hown : w.ownsRow B 42 4 v acc.length (rowOf acc)) (hbel : Below B w0 w) (hB : B ≤ w.heap.size)
    (hbad : numL ((bs s).drop at_) = 0 → R = .error at_)
    (hnext : Hid (numL ((bs s).drop at_) ≠ 0 → ∀ (p : Nat), p = at_ + numL ((bs s).drop at_) → ∀ (w' : World) (v' : Value), w'.ownsRow B 42 4 v' (acc.length + 1) (rowOf (acc ++ [{ kind := 2, text := ((bs s).drop at_).take (numL ((bs s).drop at_)), num := numN ((bs s).drop at_), place := at_ }])) → Below B w0 w' → B ≤ w'.heap.size → ∀ {u1 u2 u3 u4 u6 u8 u9 u10 u11 u12 u13 u14 u15 u16 u17 u18 u19 u20 u21 u22 u23 u24 u25 u26 u27 u28 u29 u30 u31 u32 u33 u34 u35 u36 u37 u38 u39 u40 u41 u42 u43 u44 u45 u46 u47 u48 u49 u50 u51 u52 u53 u54 u55 u56 u57 u58 u59 u60 u61 u62 u63 u64 u65 u66 u67 u68 u69 u70 u71 u72 u73 u74 u75 : Value}, Lands Tryd.prog (scopeOf Tryd.f59) (Q9 B w0 R) 0 { tmps := List.toArray (.string s :: u1 :: u2 :: u3 :: u4 :: v' :: u6 :: .int .i64 (p : Int) :: u8 :: u9 :: u10 :: u11 :: u12 :: u13 :: u14 :: u15 :: u16 :: u17 :: u18 :: u19 :: u20 :: u21 :: u22 :: u23 :: u24 :: u25 :: u26 :: u27 :: u28 :: u29 :: u30 :: u31 :: u32 :: u33 :: u34 :: u35 :: u36 :: u37 :: u38 :: u39 :: u40 :: u41 :: u42 :: u43 :: u44 :: u45 :: u46 :: u47 :: u48 :: u49 :: u50 :: u51 :: u52 :: u53 :: u54 :: u55 :: u56 :: u57 :: u58 :: u59 :: u60 :: u61 :: u62 :: u63 :: u64 :: u65 :: u66 :: u67 :: u68 :: u69 :: u70 :: u71 :: u72 :: u73 :: u74 :: u75 :: []), defers := [] } w')) {u1 u2 u3 u4 u6 u8 u10 u11 u12 u13 u14 u15 u16 u17 u18 u19 u20 u21 u22 u23 u24 u25 u26 u27 u28 u29 u30 u31 u32 u33 u34 u35 u36 u37 u38 u39 u40 u41 u42 u43 u44 u45 u46 u47 u48 u49 u50 u51 u52 u53 u54 u55 u56 u57 u58 u59 u60 u61 u62 u63 u64 u65 u66 u67 u68 u69 u70 u71 u72 u73 u74 u75 : Value} :
    Lands Tryd.prog (scopeOf Tryd.f59) (Q9 B w0 R) 2 { tmps := List.toArray (.string s :: u1 :: u2 :: u3 :: u4 :: v :: u6 :: .int .i64 (at_ : Int) :: u8 :: .int .i64 2 :: u10 :: u11 :: u12 :: u13 :: u14 :: u15 :: u16 :: u17 :: u18 :: u19 :: u20 :: u21 :: u22 :: u23 :: u24 :: u25 :: u26 :: u27 :: u28 :: u29 :: u30 :: u31 :: u32 :: u33 :: u34 :: u35 :: u36 :: u37 :: u38 :: u39 :: u40 :: u41 :: u42 :: u43 :: u44 :: u45 :: u46 :: u47 :: u48 :: u49 :: u50 :: u51 :: u52 :: u53 :: u54 :: u55 :: u56 :: u57 :: u58 :: u59 :: u60 :: u61 :: u62 :: u63 :: u64 :: u65 :: u66 :: u67 :: u68 :: u69 :: u70 :: u71 :: u72 :: u73 :: u74 :: u75 :: []), defers := [] } w := by
  by_cases h0 : numL ((bs s).drop at_) = 0
  · have hR := hbad h0
    subst hR
    clear hnext hbad
    refine Lands.of rfl ?_
    go_wp2_with (go_at_call 80; refine (numberAt_any _ _ h1 (by omega) hd _).mono ?_; rintro e w' ⟨rfl, rfl⟩)
    go_step3
    exact wrong_lands s B w0 w' _ at_ rfl hbel
  · have hle := numL_le ((bs s).drop at_)
    rw [List.length_drop, bs_length] at hle
    obtain ⟨k, hk⟩ : ∃ k, k = numL ((bs s).drop at_) := ⟨_, rfl⟩
    obtain ⟨n, hn⟩ : ∃ n, n = numN ((bs s).drop at_) := ⟨_, rfl⟩
    have hcall : ∀ w, Calls Tryd.prog 80 #[.string s, .int .i64 (at_ : Int)] w fun e w' => e = .returned (.tuple #[.int .u32 n, .int .i64 ((at_ : Int) + k)]) ∧ w' = w := by
      intro w
      rw [hk, hn]
      exact numberAt_any _ _ h1 (by omega) hd _
    rw [← hk, ← hn] at hnext
    rw [← hk] at h0 hle
    obtain ⟨T, hT⟩ : ∃ T, T = ((bs s).drop at_).take k := ⟨_, rfl⟩
    have hsl : ∀ W : World, (Instr.slice 9 (.string s) (some (.int .i64 (at_ : Int))) (some (.int .i64 ((at_ : Int) + k))) none).run Tryd.prog W = .ok (.string (str T)) W := fun W => by
      rw [run_slice_string W 9 s .i64 .i64 at_ ((at_ : Int) + k) Tryd.underlying9 (by omega) (by omega) (by omega), Lib.extract_eq, hT]
      simp [str, bs]
      congr 2
      omega
    have hTs : (str T).size ≤ 1100000 := by
      have : (str T).size = T.length := by simp [str, ByteArray.size]
      rw [this, hT, List.length_take, List.length_drop, bs_length]
      omega
    rw [← hT] at hnext
    have he : (((at_ : Int) + k) == (at_ : Int)) = false := by simp; omega
    clear hT hk hn hbad hd
    obtain ⟨i0, hi, hz0, hz1, hz2⟩ := info_parts Tryd.info42
    have hlen : acc.length ≤ 1100000 := by omega
    have hcH := Hid.intro hcall
    clear hcall
    refine Lands.of rfl ?_
    go_wp2_with (go_at_call 80; refine (hcH.out _).mono ?_; rintro e w' ⟨rfl, rfl⟩)
    go_step3
    go_wp2_with (first
      | (go_at_call 30; refine (clone_any _ _ (by omega)).mono ?_; rintro e w' ⟨rfl, hb⟩)
      | (at_builtin; go_must (refine wpList_append_own_wide _ rfl (.tmp 63) (.tmp 73) 35 rfl B 42 i0 (.agg #[.int .i64 0, .string ⟨#[]⟩, .int .u32 0, .int .i64 0]) 4 40 Tryd.underlying35 hi hz0 hz1 hz2 rfl (by decide) v acc.length (rowOf acc) rfl ((ownsRow_below hown hb).alloc _) ⟨_, 0, none⟩ 1 1 [.int .i64 2, .string (str T), .int .u32 n, .int .i64 (at_ : Int)] rfl rfl (cells_new _ _ _) (by simp [Value.oneCell']) (by unfold maxLen; omega) (by omega) (by have := hb.size; simp; omega) ?_; intro v2 w2 hown2 hgrow2 _)))
    go_step3
    have hbs := hb.size
    refine hnext.out h0 (at_ + k) rfl w2 v2 ?_ ?_ ?_
    · rw [rowOf_push]; exact hown2
    · exact ((hbel.trans (hb.mono hB)).alloc (by omega) _).grown hgrow2 (by simp; omega) (fun k hk => (hown.lt k hk).1)
    · have := hgrow2.size; simp at this; omega
end Go.Proofs.YtijdjljnppkhmaaDoor
