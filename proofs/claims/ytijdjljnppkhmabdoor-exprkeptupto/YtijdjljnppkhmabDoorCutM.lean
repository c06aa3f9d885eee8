/- A token hangs on its own bytes, and on what stands behind it being no part of it: behind it a blank may stand. -/
import Derived.Test.YtijdjljnppkhmabDoorSpec2
namespace Go.Proofs.YtijdjljnppkhmabDoor
set_option linter.unusedVariables false
set_option maxRecDepth 100000

theorem lenW_char (p : Int → Bool) (hp : p 0 = false) (r : List UInt8) (k : Nat) (h1 : ∀ i, i < k → p (atI r i) = true) (h2 : p (atI r k) = false) : lenW p r = k := by
  apply Decidable.byContradiction
  intro hn
  by_cases hlt : lenW p r < k
  · have := h1 _ hlt
    rw [lenW_end p hp r] at this
    cases this
  · have := lenW_in p r k (by omega)
    rw [h2] at this
    cases this

theorem atI_take (r r' : List UInt8) (k i : Nat) (h : r'.take k = r.take k) (hi : i < k) : atI r' i = atI r i := by
  have e : ∀ l : List UInt8, atI (l.take k) i = atI l i := by
    intro l
    unfold atI
    simp [List.getD_eq_getElem?_getD, hi]
  rw [← e r', ← e r, h]

theorem drop_take_eq (r r' : List UInt8) (k j : Nat) (h : r'.take k = r.take k) : (r'.drop j).take (k - j) = (r.drop j).take (k - j) := by
  rw [← List.drop_take, ← List.drop_take, h]

theorem not_hex_of_not_word (c : Int) (h : inW c = false) : isHex c = false := by
  cases hx : isHex c
  · rfl
  · rw [inW_of_hex c hx] at h; cases h
theorem not_dig_of_not_word (c : Int) (h : inW c = false) : isDig c = false := by
  cases hx : isDig c
  · rfl
  · rw [inW_of_dig c hx] at h; cases h

theorem num_same (r r' : List UInt8) (n : Int) (k : Nat) (hk : k ≠ 0) (h : numAt r = some (n, k)) (ht : r'.take k = r.take k) (hb : atI r' k = 32 ∨ atI r' k = atI r k) : numAt r' = some (n, k) := by
  have a0 : atI r' 0 = atI r 0 := atI_take r r' k 0 ht (by omega)
  unfold numAt at h
  by_cases h1 : atI r 0 = 39
  · rw [if_pos h1] at h
    by_cases h2 : isQuo (atI r 1) = true ∧ atI r 2 = 39
    · rw [if_pos h2] at h
      simp at h
      have a1 : atI r' 1 = atI r 1 := atI_take r r' k 1 ht (by omega)
      have a2 : atI r' 2 = atI r 2 := atI_take r r' k 2 ht (by omega)
      unfold numAt
      rw [if_pos (by rw [a0]; exact h1), a1, a2, if_pos h2]
      simp
      exact h
    · rw [if_neg h2] at h; cases h
  · rw [if_neg h1] at h
    by_cases h2 : atI r 0 = 48 ∧ atI r 1 = 120
    · rw [if_pos h2] at h
      split at h
      · cases h
      · rename_i hbad
        simp only [Option.some.injEq, Prod.mk.injEq] at h
        obtain ⟨hv, hkk⟩ := h
        have hx0 : hexLen 8 (r.drop 2) ≠ 0 := fun x => hbad (Or.inl x)
        have hnw : inW (atI r (2 + hexLen 8 (r.drop 2))) = false := by
          cases hw : inW (atI r (2 + hexLen 8 (r.drop 2)))
          · rfl
          · exact absurd (Or.inr hw) hbad
        obtain ⟨H, hH⟩ : ∃ H, H = hexLen 8 (r.drop 2) := ⟨_, rfl⟩
        rw [← hH] at hv hkk hx0 hnw
        have hnw' : inW (atI r' (2 + H)) = false := by
          rw [hkk]
          rcases hb with hb | hb
          · rw [hb]; rfl
          · rw [hb, ← hkk]; exact hnw
        have hle : H ≤ 8 := by rw [hH]; exact Nat.min_le_left _ _
        have hin : ∀ i, i < H → isHex (atI (r'.drop 2) i) = true := by
          intro i hi
          rw [atI_drop, atI_take r r' k (2 + i) ht (by omega), ← atI_drop]
          exact lenW_in isHex (r.drop 2) i (by have : H ≤ lenW isHex (r.drop 2) := by rw [hH]; exact Nat.min_le_right _ _
                                               omega)
        have hlw : lenW isHex (r'.drop 2) = H := lenW_char isHex isHex_zero _ H hin (by rw [atI_drop]; exact not_hex_of_not_word _ hnw')
        have hlen : hexLen 8 (r'.drop 2) = H := by unfold hexLen; rw [hlw]; omega
        have htk : (r'.drop 2).take H = (r.drop 2).take H := by
          have := drop_take_eq r r' k 2 ht
          rw [show k - 2 = H by omega] at this
          exact this
        have a1 : atI r' 1 = atI r 1 := atI_take r r' k 1 ht (by omega)
        unfold numAt
        rw [if_neg (by rw [a0]; exact h1), if_pos (by rw [a0, a1]; exact h2), hlen, if_neg (by intro x; rcases x with x | x; exact hx0 x; rw [hnw'] at x; cases x), htk, hv, hkk]
    · rw [if_neg h2] at h
      by_cases h3 : atI r 0 = 48
      · rw [if_pos h3] at h
        split at h
        · cases h
        · rename_i hw
          simp only [Option.some.injEq, Prod.mk.injEq] at h
          obtain ⟨hv, hkk⟩ := h
          subst hkk
          have hx : ¬ atI r 1 = 120 := fun x => h2 ⟨h3, x⟩
          have h1' : ¬ atI r' 1 = 120 := by
            rcases hb with hb | hb
            · rw [hb]; decide
            · rw [hb]; exact hx
          have h1w : ¬ inW (atI r' 1) = true := by
            rcases hb with hb | hb
            · rw [hb]; decide
            · rw [hb]; exact hw
          unfold numAt
          rw [if_neg (by rw [a0]; exact h1), if_neg (fun x => h1' x.2), if_pos (by rw [a0]; exact h3), if_neg h1w, hv]
      · rw [if_neg h3] at h
        split at h
        · cases h
        · rename_i hbad
          simp only [Option.some.injEq, Prod.mk.injEq] at h
          obtain ⟨hv, hkk⟩ := h
          have hnw : inW (atI r (lenW isDig r)) = false := by
            cases hw : inW (atI r (lenW isDig r))
            · rfl
            · exact absurd (Or.inr hw) hbad
          rw [hkk] at hnw hv hbad
          have hnw' : inW (atI r' k) = false := by
            rcases hb with hb | hb
            · rw [hb]; rfl
            · rw [hb]; exact hnw
          have hlw : lenW isDig r' = k := lenW_char isDig isDig_zero _ k (fun i hi => by rw [atI_take r r' k i ht hi]; exact lenW_in isDig r i (by omega)) (not_dig_of_not_word _ hnw')
          unfold numAt
          rw [if_neg (by rw [a0]; exact h1), if_neg (fun x => h3 (by rw [← a0]; exact x.1)), if_neg (by rw [a0]; exact h3), hlw, ht, if_neg (by intro x; rcases x with x | x; exact hbad (Or.inl x); rw [hnw'] at x; cases x), hv]

theorem numAt_of_L (r : List UInt8) (h : numL r ≠ 0) : numAt r = some (numN r, numL r) := by
  unfold numL at h
  unfold numN numL
  cases hx : numAt r with
  | none => rw [hx] at h; exact absurd rfl h
  | some y => rfl

theorem tok_same (r r' : List UInt8) (kind n : Int) (k : Nat) (h : tokAt r = some (kind, n, k)) (ht : r'.take k = r.take k) (hb : atI r' k = 32 ∨ atI r' k = atI r k) : tokAt r' = some (kind, n, k) := by
  have hk := (tokAt_some _ _ _ _ h).1
  have a0 : atI r' 0 = atI r 0 := atI_take r r' k 0 ht (by omega)
  unfold tokAt at h
  by_cases h1 : isLet (atI r 0) = true
  · rw [if_pos h1] at h
    split at h
    · rename_i hle
      simp only [Option.some.injEq, Prod.mk.injEq] at h
      obtain ⟨hkd, hn, hkk⟩ := h
      have hend := lenW_end inW inW_zero r
      rw [hkk] at hend
      have hnw' : inW (atI r' k) = false := by
        rcases hb with hb | hb
        · rw [hb]; rfl
        · rw [hb]; exact hend
      have hlw : lenW inW r' = k := lenW_char inW inW_zero _ k (fun i hi => by rw [atI_take r r' k i ht hi]; exact lenW_in inW r i (by omega)) hnw'
      unfold tokAt
      rw [if_pos (by rw [a0]; exact h1), hlw, if_pos (by omega), hkd, hn]
    · cases h
  · rw [if_neg h1] at h
    by_cases h2 : isDig (atI r 0) = true ∨ atI r 0 = 39
    · rw [if_pos h2] at h
      split at h
      · cases h
      · rename_i h0
        simp only [Option.some.injEq, Prod.mk.injEq] at h
        obtain ⟨hkd, hn, hkk⟩ := h
        have hna := numAt_of_L r h0
        rw [hkk, hn] at hna
        have hn2 := num_same r r' n k (by omega) hna ht hb
        unfold tokAt
        rw [if_neg (by rw [a0]; exact h1), if_pos (by rw [a0]; exact h2)]
        have e1 : numL r' = k := by unfold numL; rw [hn2]
        have e2 : numN r' = n := by unfold numN; rw [hn2]
        rw [e1, e2, if_neg (by omega), hkd]
    · rw [if_neg h2] at h
      unfold tokAt
      rw [if_neg (by rw [a0]; exact h1), if_neg (by rw [a0]; exact h2), a0]
      exact h

theorem atI_app_lt (r y : List UInt8) (k : Nat) (h : k < r.length) : atI (r ++ y) k = atI r k := by
  unfold atI
  simp [List.getD_eq_getElem?_getD, List.getElem?_append_left h]
theorem atI_app_end (r y : List UInt8) : atI (r ++ (32 : UInt8) :: y) r.length = 32 := by
  unfold atI
  simp [List.getD_eq_getElem?_getD]

theorem scan_cut (r t : List UInt8) (a : Nat) (ts : List Tok) (h : scan r a = .ok ts) : scan (r ++ (32 : UInt8) :: (59 : UInt8) :: t) a = .ok ts := by
  induction hn : r.length using Nat.strongRecOn generalizing r a ts with
  | _ n ih =>
    subst hn
    cases r with
    | nil =>
      unfold scan at h
      cases h
      rw [List.nil_append, scan, if_neg (by decide), if_pos (by decide), scan, if_pos (by decide)]
    | cons b r =>
      rw [List.cons_append]
      unfold scan at h
      split at h
      · rename_i h59
        cases h
        rw [scan, if_pos h59]
      · rename_i h59
        split at h
        · rename_i hbl
          rw [scan, if_neg h59, if_pos hbl]
          exact ih r.length (by simp) r _ ts h rfl
        · rename_i hbl
          split at h
          · cases h
          · rename_i kind n k heq1
            have hk := tokAt_some _ _ _ _ heq1
            have htk : (b :: (r ++ (32 : UInt8) :: (59 : UInt8) :: t)).take k = (b :: r).take k := by
              rw [← List.cons_append, List.take_append_of_le_length hk.2]
            have htok : tokAt (b :: (r ++ (32 : UInt8) :: (59 : UInt8) :: t)) = some (kind, n, k) := by
              refine tok_same (b :: r) _ kind n k heq1 htk ?_
              rw [← List.cons_append]
              by_cases hlt : k < (b :: r).length
              · right; exact atI_app_lt _ _ _ hlt
              · left
                have e : k = (b :: r).length := by omega
                rw [e]
                exact atI_app_end _ _
            rw [scan, if_neg h59, if_neg hbl, htok]
            simp only
            have hdr : (r ++ (32 : UInt8) :: (59 : UInt8) :: t).drop (k - 1) = r.drop (k - 1) ++ (32 : UInt8) :: (59 : UInt8) :: t := by
              rw [List.drop_append_of_le_length]
              have := hk.2
              simp at this
              omega
            rw [hdr, htk]
            split at h
            · rename_i us heq2
              rw [ih (r.drop (k - 1)).length (by simp; omega) (r.drop (k - 1)) _ us heq2 rfl]
              exact h
            · cases h
end Go.Proofs.YtijdjljnppkhmabDoor
