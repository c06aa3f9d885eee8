/- The document's Tokens: the tokens of a text. -/
import Derived.Test.YtijdjljnppkhmabDoorRefNum3
import Derived.Test.YtijdjljnppkhmabDoorKnown
namespace Go.Proofs.YtijdjljnppkhmabDoor
open Go.ChangeShapes Go.WideShapes Go.ChangeAt Go.RowKit
set_option linter.unusedVariables false
set_option maxRecDepth 100000

theorem Tryd.info59 : (Tryd.prog.info? 59).map (fun i => (i.zero, i.size, i.bytes)) = some (some (.agg #[.int .i64 0, .string ⟨#[]⟩, .int .u32 0, .int .i64 0]), 4, 40) := by kernel_rfl

/-- what the document's Tokens answers -/
def ROut (B : Nat) (w0 : World) (R : Except Nat (List Tok)) (e : Ending) (w' : World) : Prop :=
  Below B w0 w' ∧ match R with
  | .ok ts => ∃ v, e = .returned (.tuple #[v, .int .i64 0, .int .i64 0]) ∧ w'.ownsRow B 59 4 v ts.length (rowOf ts)
  | .error p => e = .returned (.tuple #[.slice none 0 0, .int .i64 (p : Int), .int .i64 20])

/-- the state of the document's Tokens at a place -/
structure RSt (s : ByteArray) (w0 : World) (R : Except Nat (List Tok)) (at_ : Nat) (acc : List Tok) (v : Value) (w : World) : Prop where
  le : at_ ≤ s.size
  few : acc.length ≤ at_
  eq : R = ext acc (scan ((bs s).drop at_) at_)
  own : w.ownsRow w0.heap.size 59 4 v acc.length (rowOf acc)
  bel : Below w0.heap.size w0 w
  siz : w0.heap.size ≤ w.heap.size

theorem rst_next {s : ByteArray} {w0 w : World} {R : Except Nat (List Tok)} {at_ : Nat} {acc : List Tok} {v : Value} (h : RSt s w0 R at_ acc v w) (hlt : at_ < s.size) (h59 : atI (bs s) at_ ≠ 59) (hbl : isBl (atI (bs s) at_) = false)
    (kind n : Int) (k p : Nat) (T : List UInt8) (ht : tokAt ((bs s).drop at_) = some (kind, n, k)) (hp : p = at_ + k) (hT : T = ((bs s).drop at_).take k) (w2 : World) (v2 : Value)
    (hown : w2.ownsRow w0.heap.size 59 4 v2 (acc.length + 1) (rowOf acc ++ [.int .i64 kind, .string (str T), .int .u32 n, .int .i64 (at_ : Int)])) (hb : Below w0.heap.size w0 w2) (hz : w0.heap.size ≤ w2.heap.size) :
    RSt s w0 R p (acc ++ [⟨kind, T, n, at_⟩]) v2 w2 := by
  have hk := tokAt_some _ _ _ _ ht
  rw [List.length_drop, bs_length] at hk
  have hacc := h.few
  refine ⟨by omega, by simp; omega, ?_, ?_, hb, hz⟩
  · rw [h.eq, scan_tok (bs s) at_ (by rw [bs_length]; exact hlt) h59 hbl _ _ _ ht, ext_ext, hp, hT]
  · rw [rowOf_push, List.length_append]; exact hown

set_option maxHeartbeats 8000000 in
theorem refTokens_any (s : ByteArray) (hs : s.size ≤ 1100000) (w : World) :
    Calls Tryd.prog 21 #[.string s] w fun e w' => ROut w.heap.size w (scan (bs s) 0) e w' := by
  obtain ⟨R, hR⟩ : ∃ R, R = scan (bs s) 0 := ⟨_, rfl⟩
  rw [← hR]
  have hstart : Hid (RSt s w R 0 [] (.slice none 0 0) w) := ⟨by omega, by simp, by rw [List.drop_zero, ext_nil]; exact hR, World.ownsRow_nil _ _ _ _, Below.refl _ _, Nat.le_refl _⟩
  clear hR
  obtain ⟨i0, hi, hz0, hz1, hz2⟩ := info_parts Tryd.info59
  go_enter Tryd.func21, Tryd.ntmps21
  go_wp2
  go_loopw [5, 6] (fun vl vi wr => ∃ (at_ : Nat) (acc : List Tok) (v : Value), vi = .int .i64 (at_ : Int) ∧ vl = v ∧ Hid (RSt s w R at_ acc v wr)) (fun _ vi _ => s.size - (intOf vi).toNat)
  case atStart => exact ⟨0, [], _, rfl, rfl, hstart⟩
  case round =>
    clear hstart
    obtain ⟨at_, acc, v, rfl, hv, hS⟩ := hrel
    have hv' := hv.symm
    clear hv
    subst hv'
    have hle := hS.out.le
    have hacc := hS.out.few
    have hown := hS.out.own
    have hbel := hS.out.bel
    have hbz := hS.out.siz
    by_cases hlt : at_ < s.size
    · have hlti : (at_ : Int) < (s.size : Int) := by omega
      have hll : at_ < (bs s).length := by rw [bs_length]; exact hlt
      have hgj := atI_get s at_ hlt
      obtain ⟨c, hc⟩ : ∃ c, c = atI (bs s) at_ := ⟨_, rfl⟩
      have hr0 : Hid (atI ((bs s).drop at_) 0 = c) := by rw [atI_drop, Nat.add_zero]; exact hc.symm
      rw [← hc] at hgj
      have hc' : Hid (atI (bs s) at_ = c) := hc.symm
      clear hc
      by_cases h59 : c = 59
      · have hRe : Hid (R = .ok acc) := by
          rw [hS.out.eq, scan_remark (bs s) at_ hll (by rw [hc'.out, h59])]
          simp [ext, Hid]
        have h59' : (c == 59) = true := by simp [h59]
        clear h59
        go_wp2
        all_goals first
          | omega
          | skip
        go_ret3
        rw [hRe.out]
        exact ⟨hbel, v, rfl, hown⟩
      · have h59' : (c == 59) = false := by simp [h59]
        have h59H := Hid.intro h59
        clear h59
        cases hbl : isBl c
        · have hb3 : (c == 9) = false ∧ (c == 13) = false ∧ (c == 32) = false := by simp [isBl] at hbl ⊢; omega
          obtain ⟨b1, b2, b3⟩ := hb3
          have hblH := Hid.intro hbl
          clear hbl
          cases hlet : isLet c
          · cases hdi : isDig c
            · by_cases hq : c = 39
              · have hq' : (c == 39) = true := by simp [hq]
                have hqH := Hid.intro hq
                clear hq
                have hd : Hid (isDig c = true ∨ c = 39) := Or.inr hqH.out
                have hta : Hid (tokAt ((bs s).drop at_) = if numL ((bs s).drop at_) = 0 then none else some (2, numN ((bs s).drop at_), numL ((bs s).drop at_))) := by
                  show tokAt ((bs s).drop at_) = _
                  unfold tokAt; rw [hr0.out, if_neg (by rw [hlet]; simp), if_pos hd.out]
                have hcall : Hid (∀ w, Calls Tryd.prog 35 #[.string s, .int .i64 (at_ : Int)] w fun e w' => e = .returned (.tuple #[.int .u32 (numN ((bs s).drop at_)), .int .i64 (refT ((bs s).drop at_) at_)]) ∧ w' = w) := fun w => refNumber_any s at_ hlt hs (by rw [hc'.out]; exact hd.out) w
                by_cases h0 : numL ((bs s).drop at_) = 0
                · have hRe : Hid (R = .error at_) := by
                    show R = _
                    rw [hS.out.eq, scan_wrong (bs s) at_ hll (by rw [hc'.out]; exact h59H.out) (by rw [hc'.out]; exact hblH.out) (by rw [hta.out, if_pos h0])]
                    rfl
                  have hT0 : refT ((bs s).drop at_) at_ = 0 := by unfold refT; rw [if_pos h0]
                  rw [hT0] at hcall
                  clear h0 hT0 hta
                  go_wp2_with (first
                    | (go_at_call 31; with_reducible refine (refLetter_any _ _).mono ?_; rintro e w' ⟨rfl, rfl⟩)
                    | (go_at_call 32; with_reducible refine (refDigit_any _ _).mono ?_; rintro e w' ⟨rfl, rfl⟩)
                    | (go_at_call 35; with_reducible refine (hcall.out _).mono ?_; rintro e w' ⟨rfl, rfl⟩))
                  all_goals first
                    | omega
                    | skip
                  go_ret3
                  rw [hRe.out]
                  exact ⟨hbel, rfl⟩
                · have hT0 : refT ((bs s).drop at_) at_ = (at_ : Int) + numL ((bs s).drop at_) := by unfold refT; rw [if_neg h0]
                  rw [hT0] at hcall
                  have hkl := numL_le ((bs s).drop at_)
                  rw [List.length_drop, bs_length] at hkl
                  have htS : tokAt ((bs s).drop at_) = some (2, numN ((bs s).drop at_), numL ((bs s).drop at_)) := by rw [hta.out, if_neg h0]
                  obtain ⟨k, hk⟩ : ∃ k, k = numL ((bs s).drop at_) := ⟨_, rfl⟩
                  obtain ⟨n, hn⟩ : ∃ n, n = numN ((bs s).drop at_) := ⟨_, rfl⟩
                  obtain ⟨T, hT⟩ : ∃ T, T = ((bs s).drop at_).take k := ⟨_, rfl⟩
                  rw [← hk, ← hn] at hcall htS
                  rw [← hk] at h0 hkl
                  have hnx : Hid (∀ (w2 : World) (v2 : Value), w2.ownsRow w.heap.size 59 4 v2 (acc.length + 1) (rowOf acc ++ [.int .i64 2, .string (str T), .int .u32 n, .int .i64 (at_ : Int)]) → Below w.heap.size w w2 → w.heap.size ≤ w2.heap.size → Hid (RSt s w R (at_ + k) (acc ++ [⟨2, T, n, at_⟩]) v2 w2)) :=
                    fun w2 v2 ho hb hz => rst_next hS.out hlt (by rw [hc'.out]; exact h59H.out) (by rw [hc'.out]; exact hblH.out) 2 n k (at_ + k) T htS rfl hT w2 v2 ho hb hz
                  have hsl : ∀ W : World, (Instr.slice 9 (.string s) (some (.int .i64 (at_ : Int))) (some (.int .i64 ((at_ : Int) + k))) none).run Tryd.prog W = .ok (.string (str T)) W := fun W => by
                    rw [run_slice_string W 9 s .i64 .i64 at_ ((at_ : Int) + k) Tryd.underlying9 (by omega) (by omega) (by omega), Lib.extract_eq, hT]
                    simp [str, bs]
                    congr 2
                    omega
                  have he : (((at_ : Int) + k) == 0) = false := by simp; omega
                  clear hT0 hta htS hk hn hT
                  go_wp2_with (first
                    | (go_at_call 31; with_reducible refine (refLetter_any _ _).mono ?_; rintro e w' ⟨rfl, rfl⟩)
                    | (go_at_call 32; with_reducible refine (refDigit_any _ _).mono ?_; rintro e w' ⟨rfl, rfl⟩)
                    | (go_at_call 35; with_reducible refine (hcall.out _).mono ?_; rintro e w' ⟨rfl, rfl⟩)
                    | (at_builtin; go_must (refine wpList_append_own_wide _ rfl (.tmp 84) (.tmp 92) 35 rfl w.heap.size 59 i0 (.agg #[.int .i64 0, .string ⟨#[]⟩, .int .u32 0, .int .i64 0]) 4 40 Tryd.underlying35 hi hz0 hz1 hz2 rfl (by decide) v acc.length (rowOf acc) rfl (hown.alloc _) ⟨_, 0, none⟩ 1 1 [.int .i64 2, .string (str T), .int .u32 n, .int .i64 (at_ : Int)] rfl rfl (cells_new _ _ _) (by simp [Value.oneCell']) (by unfold maxLen; omega) (by omega) (by simp; omega) ?_; intro v2 w2 hown2 hgrow2 _)))
                  all_goals first
                    | omega
                    | skip
                  go_roundw
                  case rel =>
                    refine ⟨at_ + k, acc ++ [⟨2, T, n, at_⟩], v2, by go_num, rfl, ?_⟩
                    exact hnx.out w2 v2 hown2 ((hbel.alloc hbz _).grown hgrow2 (by simp; omega) (fun k hk => (hown.lt k hk).1)) (by have := hgrow2.size; simp at this; omega)
                  case measure => simp [intOf]; omega
              · have hq' : (c == 39) = false := by simp [hq]
                have hqH := Hid.intro hq
                clear hq
                have htaH : Hid (tokAt ((bs s).drop at_) = if isSg c = true then some (3, 0, 1) else none) := by
                  show tokAt ((bs s).drop at_) = _
                  unfold tokAt; rw [hr0.out, if_neg (by rw [hlet]; simp), if_neg (by rw [hdi]; simp; exact hqH.out)]
                cases hsg : isSg c
                · have hRe : Hid (R = .error at_) := by
                    show R = _
                    rw [hS.out.eq, scan_wrong (bs s) at_ hll (by rw [hc'.out]; exact h59H.out) (by rw [hc'.out]; exact hblH.out) (by rw [htaH.out, hsg]; simp)]
                    rfl
                  have hs8 : (c != 58) = true ∧ (c != 44) = true ∧ (c != 40) = true ∧ (c != 41) = true ∧ (c != 43) = true ∧ (c != 45) = true ∧ (c != 42) = true ∧ (c != 61) = true := by simp [isSg] at hsg ⊢; omega
                  obtain ⟨s1, s2, s3, s4, s5, s6, s7, s8⟩ := hs8
                  clear hsg htaH
                  go_wp2_with (first
                    | (go_at_call 31; with_reducible refine (refLetter_any _ _).mono ?_; rintro e w' ⟨rfl, rfl⟩)
                    | (go_at_call 32; with_reducible refine (refDigit_any _ _).mono ?_; rintro e w' ⟨rfl, rfl⟩))
                  all_goals first
                    | omega
                    | skip
                  go_ret3
                  rw [hRe.out]
                  exact ⟨hbel, rfl⟩
                · obtain ⟨T, hT⟩ : ∃ T, T = ((bs s).drop at_).take 1 := ⟨_, rfl⟩
                  have hnx : Hid (∀ (w2 : World) (v2 : Value), w2.ownsRow w.heap.size 59 4 v2 (acc.length + 1) (rowOf acc ++ [.int .i64 3, .string (str T), .int .u32 0, .int .i64 (at_ : Int)]) → Below w.heap.size w w2 → w.heap.size ≤ w2.heap.size → Hid (RSt s w R (at_ + 1) (acc ++ [⟨3, T, 0, at_⟩]) v2 w2)) :=
                    fun w2 v2 ho hb hz => rst_next hS.out hlt (by rw [hc'.out]; exact h59H.out) (by rw [hc'.out]; exact hblH.out) 3 0 1 (at_ + 1) T (by rw [htaH.out, hsg]; simp) rfl hT w2 v2 ho hb hz
                  have hsl : ∀ W : World, (Instr.slice 9 (.string s) (some (.int .i64 (at_ : Int))) (some (.int .i64 ((at_ : Int) + 1))) none).run Tryd.prog W = .ok (.string (str T)) W := fun W => by
                    rw [run_slice_string W 9 s .i64 .i64 at_ ((at_ : Int) + 1) Tryd.underlying9 (by omega) (by omega) (by omega), Lib.extract_eq, hT]
                    simp [str, bs]
                  have hs8 : c = 58 ∨ c = 44 ∨ c = 40 ∨ c = 41 ∨ c = 43 ∨ c = 45 ∨ c = 42 ∨ c = 61 := by simp [isSg] at hsg; omega
                  clear htaH hT hsg hqH h59' b1 b2 b3 hq'
                  have hrest : Hid (isLet c = false ∧ isDig c = false) := ⟨hlet, hdi⟩
                  clear hlet hdi
                  rcases hs8 with rfl | rfl | rfl | rfl | rfl | rfl | rfl | rfl
                  all_goals
                    have hlet := hrest.out.1
                    have hdi := hrest.out.2
                    go_wp2_with (first
                      | (go_at_call 31; with_reducible refine (refLetter_any _ _).mono ?_; rintro e w' ⟨rfl, rfl⟩)
                      | (go_at_call 32; with_reducible refine (refDigit_any _ _).mono ?_; rintro e w' ⟨rfl, rfl⟩)
                      | (at_builtin; go_must (refine wpList_append_own_wide _ rfl (.tmp 126) (.tmp 134) 35 rfl w.heap.size 59 i0 (.agg #[.int .i64 0, .string ⟨#[]⟩, .int .u32 0, .int .i64 0]) 4 40 Tryd.underlying35 hi hz0 hz1 hz2 rfl (by decide) v acc.length (rowOf acc) rfl (hown.alloc _) ⟨_, 0, none⟩ 1 1 [.int .i64 3, .string (str T), .int .u32 0, .int .i64 (at_ : Int)] rfl rfl (cells_new _ _ _) (by simp [Value.oneCell']) (by unfold maxLen; omega) (by omega) (by simp; omega) ?_; intro v2 w2 hown2 hgrow2 _)))
                    all_goals first
                      | omega
                      | skip
                    go_roundw
                    case rel =>
                      refine ⟨at_ + 1, acc ++ [⟨3, T, 0, at_⟩], v2, by go_num, rfl, ?_⟩
                      exact hnx.out w2 v2 hown2 ((hbel.alloc hbz _).grown hgrow2 (by simp; omega) (fun k hk => (hown.lt k hk).1)) (by have := hgrow2.size; simp at this; omega)
                    case measure => simp [intOf]; omega
            · have hdiH := Hid.intro hdi
              have hd : Hid (isDig c = true ∨ c = 39) := Or.inl hdi
              have hta : Hid (tokAt ((bs s).drop at_) = if numL ((bs s).drop at_) = 0 then none else some (2, numN ((bs s).drop at_), numL ((bs s).drop at_))) := by
                show tokAt ((bs s).drop at_) = _
                unfold tokAt; rw [hr0.out, if_neg (by rw [hlet]; simp), if_pos hd.out]
              have hcall : Hid (∀ w, Calls Tryd.prog 35 #[.string s, .int .i64 (at_ : Int)] w fun e w' => e = .returned (.tuple #[.int .u32 (numN ((bs s).drop at_)), .int .i64 (refT ((bs s).drop at_) at_)]) ∧ w' = w) := fun w => refNumber_any s at_ hlt hs (by rw [hc'.out]; exact hd.out) w
              by_cases h0 : numL ((bs s).drop at_) = 0
              · have hRe : Hid (R = .error at_) := by
                  show R = _
                  rw [hS.out.eq, scan_wrong (bs s) at_ hll (by rw [hc'.out]; exact h59H.out) (by rw [hc'.out]; exact hblH.out) (by rw [hta.out, if_pos h0])]
                  rfl
                have hT0 : refT ((bs s).drop at_) at_ = 0 := by unfold refT; rw [if_pos h0]
                rw [hT0] at hcall
                clear h0 hT0 hta
                go_wp2_with (first
                  | (go_at_call 31; with_reducible refine (refLetter_any _ _).mono ?_; rintro e w' ⟨rfl, rfl⟩)
                  | (go_at_call 32; with_reducible refine (refDigit_any _ _).mono ?_; rintro e w' ⟨rfl, rfl⟩)
                  | (go_at_call 35; with_reducible refine (hcall.out _).mono ?_; rintro e w' ⟨rfl, rfl⟩))
                all_goals first
                  | omega
                  | skip
                go_ret3
                rw [hRe.out]
                exact ⟨hbel, rfl⟩
              · have hT0 : refT ((bs s).drop at_) at_ = (at_ : Int) + numL ((bs s).drop at_) := by unfold refT; rw [if_neg h0]
                rw [hT0] at hcall
                have hkl := numL_le ((bs s).drop at_)
                rw [List.length_drop, bs_length] at hkl
                have htS : tokAt ((bs s).drop at_) = some (2, numN ((bs s).drop at_), numL ((bs s).drop at_)) := by rw [hta.out, if_neg h0]
                obtain ⟨k, hk⟩ : ∃ k, k = numL ((bs s).drop at_) := ⟨_, rfl⟩
                obtain ⟨n, hn⟩ : ∃ n, n = numN ((bs s).drop at_) := ⟨_, rfl⟩
                obtain ⟨T, hT⟩ : ∃ T, T = ((bs s).drop at_).take k := ⟨_, rfl⟩
                rw [← hk, ← hn] at hcall htS
                rw [← hk] at h0 hkl
                have hnx : Hid (∀ (w2 : World) (v2 : Value), w2.ownsRow w.heap.size 59 4 v2 (acc.length + 1) (rowOf acc ++ [.int .i64 2, .string (str T), .int .u32 n, .int .i64 (at_ : Int)]) → Below w.heap.size w w2 → w.heap.size ≤ w2.heap.size → Hid (RSt s w R (at_ + k) (acc ++ [⟨2, T, n, at_⟩]) v2 w2)) :=
                  fun w2 v2 ho hb hz => rst_next hS.out hlt (by rw [hc'.out]; exact h59H.out) (by rw [hc'.out]; exact hblH.out) 2 n k (at_ + k) T htS rfl hT w2 v2 ho hb hz
                have hsl : ∀ W : World, (Instr.slice 9 (.string s) (some (.int .i64 (at_ : Int))) (some (.int .i64 ((at_ : Int) + k))) none).run Tryd.prog W = .ok (.string (str T)) W := fun W => by
                  rw [run_slice_string W 9 s .i64 .i64 at_ ((at_ : Int) + k) Tryd.underlying9 (by omega) (by omega) (by omega), Lib.extract_eq, hT]
                  simp [str, bs]
                  congr 2
                  omega
                have he : (((at_ : Int) + k) == 0) = false := by simp; omega
                clear hT0 hta htS hk hn hT
                go_wp2_with (first
                  | (go_at_call 31; with_reducible refine (refLetter_any _ _).mono ?_; rintro e w' ⟨rfl, rfl⟩)
                  | (go_at_call 32; with_reducible refine (refDigit_any _ _).mono ?_; rintro e w' ⟨rfl, rfl⟩)
                  | (go_at_call 35; with_reducible refine (hcall.out _).mono ?_; rintro e w' ⟨rfl, rfl⟩)
                  | (at_builtin; go_must (refine wpList_append_own_wide _ rfl (.tmp 84) (.tmp 92) 35 rfl w.heap.size 59 i0 (.agg #[.int .i64 0, .string ⟨#[]⟩, .int .u32 0, .int .i64 0]) 4 40 Tryd.underlying35 hi hz0 hz1 hz2 rfl (by decide) v acc.length (rowOf acc) rfl (hown.alloc _) ⟨_, 0, none⟩ 1 1 [.int .i64 2, .string (str T), .int .u32 n, .int .i64 (at_ : Int)] rfl rfl (cells_new _ _ _) (by simp [Value.oneCell']) (by unfold maxLen; omega) (by omega) (by simp; omega) ?_; intro v2 w2 hown2 hgrow2 _)))
                all_goals first
                  | omega
                  | skip
                go_roundw
                case rel =>
                  refine ⟨at_ + k, acc ++ [⟨2, T, n, at_⟩], v2, by go_num, rfl, ?_⟩
                  exact hnx.out w2 v2 hown2 ((hbel.alloc hbz _).grown hgrow2 (by simp; omega) (fun k hk => (hown.lt k hk).1)) (by have := hgrow2.size; simp at this; omega)
                case measure => simp [intOf]; omega
          · skip
            have htaH : Hid (tokAt ((bs s).drop at_) = if lenW inW ((bs s).drop at_) ≤ 32 then some (1, 0, lenW inW ((bs s).drop at_)) else none) := by
              show tokAt ((bs s).drop at_) = _
              unfold tokAt; rw [hr0.out, if_pos hlet]
            have hl3 := lenW_le inW ((bs s).drop at_)
            rw [List.length_drop, bs_length] at hl3
            have hL1 := (lenW_more inW inW_zero ((bs s).drop at_) (by rw [hr0.out]; exact inW_of_let _ hlet)).1
            have hLe := lenW_end inW inW_zero ((bs s).drop at_)
            have hLi := lenW_in inW ((bs s).drop at_)
            obtain ⟨L, hL⟩ : ∃ L, L = lenW inW ((bs s).drop at_) := ⟨_, rfl⟩
            rw [← hL] at htaH hl3 hL1 hLe
            have hL0 : 1 ≤ L := by omega
            have hwE : Hid (inW (atI (bs s) (at_ + L)) = false) := by rw [atI_drop] at hLe; exact hLe
            have hwI : Hid (∀ k, at_ ≤ k → k < at_ + L → inW (atI (bs s) k) = true) := fun k h1 h2 => by
              have := hLi (k - at_) (by omega)
              rw [atI_drop, show at_ + (k - at_) = k by omega] at this
              exact this
            obtain ⟨T, hT⟩ : ∃ T, T = ((bs s).drop at_).take L := ⟨_, rfl⟩
            have hTH := Hid.intro hT
            clear hT hL hL1 hLe hLi
            go_wp2_with (first
              | (go_at_call 31; with_reducible refine (refLetter_any _ _).mono ?_; rintro e w' ⟨rfl, rfl⟩))
            all_goals first
              | omega
              | skip
            go_loop [8] (fun vk => ∃ k : Nat, at_ ≤ k ∧ k ≤ at_ + L ∧ vk = .int .i64 (k : Int)) (fun vk => s.size - (intOf vk).toNat)
            case atStart => exact ⟨at_, by omega, by omega, by go_num⟩
            case round =>
              obtain ⟨k, hk1, hk2, rfl⟩ := hrel
              by_cases hkL : k < at_ + L
              · have hks : k < s.size := by omega
                have hksi : (k : Int) < (s.size : Int) := by omega
                have hgk := atI_get s k hks
                have hw := hwI.out k hk1 hkL
                obtain ⟨d, hd⟩ : ∃ d, d = atI (bs s) k := ⟨_, rfl⟩
                rw [← hd] at hgk hw
                clear hd
                cases hdl : isLet d
                · have hdd : isDig d = true := by simpa [inW, hdl] using hw
                  clear hw
                  go_wp2_with (first
                    | (go_at_call 31; with_reducible refine (refLetter_any _ _).mono ?_; rintro e w' ⟨rfl, rfl⟩)
                    | (go_at_call 32; with_reducible refine (refDigit_any _ _).mono ?_; rintro e w' ⟨rfl, rfl⟩))
                  all_goals first
                    | omega
                    | skip
                  go_round
                  case rel => exact ⟨k + 1, by omega, by omega, by go_num⟩
                  case measure => simp [intOf]; omega
                · clear hw
                  go_wp2_with (first
                    | (go_at_call 31; with_reducible refine (refLetter_any _ _).mono ?_; rintro e w' ⟨rfl, rfl⟩)
                    | (go_at_call 32; with_reducible refine (refDigit_any _ _).mono ?_; rintro e w' ⟨rfl, rfl⟩))
                  all_goals first
                    | omega
                    | skip
                  go_round
                  case rel => exact ⟨k + 1, by omega, by omega, by go_num⟩
                  case measure => simp [intOf]; omega
              · have hkE : k = at_ + L := by omega
                have hwk : Hid (inW (atI (bs s) k) = false) := by rw [hkE]; exact hwE.out
                have hkH := Hid.intro hkE
                clear hkE
                have hsl : ∀ W : World, (Instr.slice 9 (.string s) (some (.int .i64 (at_ : Int))) (some (.int .i64 (k : Int))) none).run Tryd.prog W = .ok (.string (str T)) W := fun W => by
                  rw [run_slice_string W 9 s .i64 .i64 at_ k Tryd.underlying9 (by omega) (by omega) (by omega), Lib.extract_eq, hTH.out]
                  simp [str, bs]
                  rw [hkH.out]
                  congr 2
                  omega
                by_cases h32 : at_ + 32 < k
                · have hRe : Hid (R = .error at_) := by
                    show R = _
                    rw [hS.out.eq, scan_wrong (bs s) at_ hll (by rw [hc'.out]; exact h59H.out) (by rw [hc'.out]; exact hblH.out) (by rw [htaH.out, if_neg (by have := hkH.out; omega)])]
                    rfl
                  by_cases hks : k < s.size
                  · have hksi : (k : Int) < (s.size : Int) := by omega
                    have hgk := atI_get s k hks
                    have hw := hwk.out
                    obtain ⟨d, hd⟩ : ∃ d, d = atI (bs s) k := ⟨_, rfl⟩
                    rw [← hd] at hgk hw
                    have hdl : isLet d = false := by cases h : isLet d; rfl; simp [inW, h] at hw
                    have hdd : isDig d = false := by cases h : isDig d; rfl; simp [inW, h] at hw
                    clear hd hw
                    go_wp2_with (first
                      | (go_at_call 31; with_reducible refine (refLetter_any _ _).mono ?_; rintro e w' ⟨rfl, rfl⟩)
                      | (go_at_call 32; with_reducible refine (refDigit_any _ _).mono ?_; rintro e w' ⟨rfl, rfl⟩))
                    all_goals first
                      | omega
                      | skip
                    go_ret3
                    rw [hRe.out]
                    exact ⟨hbel, rfl⟩
                  · go_wp2
                    all_goals first
                      | omega
                      | skip
                    go_ret3
                    rw [hRe.out]
                    exact ⟨hbel, rfl⟩
                · have hnx : Hid (∀ (w2 : World) (v2 : Value), w2.ownsRow w.heap.size 59 4 v2 (acc.length + 1) (rowOf acc ++ [.int .i64 1, .string (str T), .int .u32 0, .int .i64 (at_ : Int)]) → Below w.heap.size w w2 → w.heap.size ≤ w2.heap.size → Hid (RSt s w R k (acc ++ [⟨1, T, 0, at_⟩]) v2 w2)) :=
                    fun w2 v2 ho hb hz => rst_next hS.out hlt (by rw [hc'.out]; exact h59H.out) (by rw [hc'.out]; exact hblH.out) 1 0 L k T (by rw [htaH.out, if_pos (by have := hkH.out; omega)]) hkH.out hTH.out w2 v2 ho hb hz
                  have hkg : at_ < k := by have := hkH.out; omega
                  by_cases hks : k < s.size
                  · have hksi : (k : Int) < (s.size : Int) := by omega
                    have hgk := atI_get s k hks
                    have hw := hwk.out
                    obtain ⟨d, hd⟩ : ∃ d, d = atI (bs s) k := ⟨_, rfl⟩
                    rw [← hd] at hgk hw
                    have hdl : isLet d = false := by cases h : isLet d; rfl; simp [inW, h] at hw
                    have hdd : isDig d = false := by cases h : isDig d; rfl; simp [inW, h] at hw
                    clear hd hw
                    go_wp2_with (first
                      | (go_at_call 31; with_reducible refine (refLetter_any _ _).mono ?_; rintro e w' ⟨rfl, rfl⟩)
                      | (go_at_call 32; with_reducible refine (refDigit_any _ _).mono ?_; rintro e w' ⟨rfl, rfl⟩)
                      | (at_builtin; go_must (refine wpList_append_own_wide _ rfl (.tmp 59) (.tmp 66) 35 rfl w.heap.size 59 i0 (.agg #[.int .i64 0, .string ⟨#[]⟩, .int .u32 0, .int .i64 0]) 4 40 Tryd.underlying35 hi hz0 hz1 hz2 rfl (by decide) v acc.length (rowOf acc) rfl (hown.alloc _) ⟨_, 0, none⟩ 1 1 [.int .i64 1, .string (str T), .int .u32 0, .int .i64 (at_ : Int)] rfl rfl (cells_new _ _ _) (by simp [Value.oneCell']) (by unfold maxLen; omega) (by omega) (by simp; omega) ?_; intro v2 w2 hown2 hgrow2 _)))
                    all_goals first
                      | omega
                      | skip
                    go_roundw
                    case rel =>
                      refine ⟨k, acc ++ [⟨1, T, 0, at_⟩], v2, by go_num, rfl, ?_⟩
                      exact hnx.out w2 v2 hown2 ((hbel.alloc hbz _).grown hgrow2 (by simp; omega) (fun k hk => (hown.lt k hk).1)) (by have := hgrow2.size; simp at this; omega)
                    case measure => simp [intOf]; omega

                  · go_wp2_with (first
                      | (at_builtin; go_must (refine wpList_append_own_wide _ rfl (.tmp 59) (.tmp 66) 35 rfl w.heap.size 59 i0 (.agg #[.int .i64 0, .string ⟨#[]⟩, .int .u32 0, .int .i64 0]) 4 40 Tryd.underlying35 hi hz0 hz1 hz2 rfl (by decide) v acc.length (rowOf acc) rfl (hown.alloc _) ⟨_, 0, none⟩ 1 1 [.int .i64 1, .string (str T), .int .u32 0, .int .i64 (at_ : Int)] rfl rfl (cells_new _ _ _) (by simp [Value.oneCell']) (by unfold maxLen; omega) (by omega) (by simp; omega) ?_; intro v2 w2 hown2 hgrow2 _)))
                    all_goals first
                      | omega
                      | skip
                    go_roundw
                    case rel =>
                      refine ⟨k, acc ++ [⟨1, T, 0, at_⟩], v2, by go_num, rfl, ?_⟩
                      exact hnx.out w2 v2 hown2 ((hbel.alloc hbz _).grown hgrow2 (by simp; omega) (fun k hk => (hown.lt k hk).1)) (by have := hgrow2.size; simp at this; omega)
                    case measure => simp [intOf]; omega
        · have hN : Hid (RSt s w R (at_ + 1) acc v wr) := ⟨by omega, by omega, by rw [hS.out.eq, scan_blank (bs s) at_ hll (by rw [hc'.out]; exact hbl)], hown, hbel, hbz⟩
          have hb3 : c = 9 ∨ c = 13 ∨ c = 32 := by simp [isBl] at hbl; omega
          clear hbl h59'
          rcases hb3 with rfl | rfl | rfl
          all_goals
            go_wp2
            all_goals first
              | omega
              | skip
            go_roundw
            case rel => exact ⟨at_ + 1, acc, v, by go_num, rfl, hN⟩
            case measure => simp [intOf]; omega
    · have e : at_ = s.size := by omega
      have hRe : Hid (R = .ok acc) := by
        rw [hS.out.eq, scan_end (bs s) at_ (by rw [bs_length]; omega)]
        simp [ext, Hid]
      have hge : ¬ ((at_ : Int) < (s.size : Int)) := by omega
      clear e
      go_wp2
      all_goals first
        | omega
        | skip
      go_ret3
      rw [hRe.out]
      exact ⟨hbel, v, rfl, hown⟩
end Go.Proofs.YtijdjljnppkhmabDoor
