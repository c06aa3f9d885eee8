/- The scan of a text, place by place. -/
import Derived.Test.YtijdjljnppkhmabDoorSpec
namespace Go.Proofs.YtijdjljnppkhmabDoor
set_option linter.unusedVariables false
set_option maxRecDepth 100000

theorem inW_of_let (c : Int) (h : isLet c = true) : inW c = true := by simp [inW, h]

theorem atI_pos (r : List UInt8) (k : Nat) (h : atI r k ≠ 0) : k < r.length := by
  apply Decidable.byContradiction
  intro hn
  exact h (atI_out r k (by omega))

theorem numL_le (r : List UInt8) : numL r ≤ r.length := by
  unfold numL
  split
  · rename_i n k h
    unfold numAt at h
    by_cases h1 : atI r 0 = 39
    · rw [if_pos h1] at h
      by_cases h2 : isQuo (atI r 1) = true ∧ atI r 2 = 39
      · rw [if_pos h2] at h
        have := atI_pos r 2 (by omega)
        simp at h
        omega
      · rw [if_neg h2] at h; cases h
    · rw [if_neg h1] at h
      by_cases h2 : atI r 0 = 48 ∧ atI r 1 = 120
      · rw [if_pos h2] at h
        have hl := atI_pos r 1 (by omega)
        have hx : hexLen 8 (r.drop 2) ≤ (r.drop 2).length := Nat.le_trans (Nat.min_le_right _ _) (lenW_le _ _)
        rw [List.length_drop] at hx
        split at h
        · cases h
        · simp at h; omega
      · rw [if_neg h2] at h
        by_cases h3 : atI r 0 = 48
        · rw [if_pos h3] at h
          have := atI_pos r 0 (by omega)
          split at h
          · cases h
          · simp at h; omega
        · rw [if_neg h3] at h
          have := lenW_le isDig r
          split at h
          · cases h
          · simp at h; omega
  · exact Nat.zero_le _

theorem tokAt_some (r : List UInt8) (kind n : Int) (k : Nat) (h : tokAt r = some (kind, n, k)) : 1 ≤ k ∧ k ≤ r.length := by
  unfold tokAt at h
  by_cases h1 : isLet (atI r 0) = true
  · rw [if_pos h1] at h
    have hm := lenW_more inW inW_zero r (inW_of_let _ h1)
    have hle := lenW_le inW r
    split at h
    · simp at h; omega
    · cases h
  · rw [if_neg h1] at h
    by_cases h2 : isDig (atI r 0) = true ∨ atI r 0 = 39
    · rw [if_pos h2] at h
      have := numL_le r
      split at h
      · cases h
      · simp at h; omega
    · rw [if_neg h2] at h
      split at h
      · rename_i h3
        have := atI_pos r 0 (by intro h0; rw [h0] at h3; revert h3; decide)
        simp at h; omega
      · cases h

def ext (acc : List Tok) : Except Nat (List Tok) → Except Nat (List Tok)
  | .ok ts => .ok (acc ++ ts)
  | .error p => .error p

theorem ext_nil (x : Except Nat (List Tok)) : ext [] x = x := by cases x <;> rfl

theorem drop_head (l : List UInt8) (a : Nat) (h : a < l.length) : ∃ b, l.drop a = b :: l.drop (a + 1) ∧ (b.toNat : Int) = atI l a := by
  refine ⟨l[a], List.drop_eq_getElem_cons h, ?_⟩
  unfold atI
  rw [List.getD_eq_getElem?_getD, List.getElem?_eq_getElem h]
  rfl

theorem scan_end (l : List UInt8) (a : Nat) (h : l.length ≤ a) : scan (l.drop a) a = .ok [] := by
  rw [List.drop_of_length_le h]
  unfold scan
  rfl

theorem scan_remark (l : List UInt8) (a : Nat) (h : a < l.length) (hc : atI l a = 59) : scan (l.drop a) a = .ok [] := by
  obtain ⟨b, hb, hv⟩ := drop_head l a h
  rw [hb, scan, if_pos (by rw [hv]; exact hc)]

theorem scan_blank (l : List UInt8) (a : Nat) (h : a < l.length) (hc : isBl (atI l a) = true) : scan (l.drop a) a = scan (l.drop (a + 1)) (a + 1) := by
  obtain ⟨b, hb, hv⟩ := drop_head l a h
  rw [hb, scan, if_neg (by rw [hv]; intro h'; rw [h'] at hc; revert hc; decide), if_pos (by rw [hv]; exact hc)]

theorem scan_wrong (l : List UInt8) (a : Nat) (h : a < l.length) (h59 : atI l a ≠ 59) (hc : isBl (atI l a) = false) (ht : tokAt (l.drop a) = none) : scan (l.drop a) a = .error a := by
  obtain ⟨b, hb, hv⟩ := drop_head l a h
  rw [hb] at ht
  rw [hb, scan, if_neg (by rw [hv]; exact h59), if_neg (by rw [hv, hc]; simp), ht]

theorem scan_tok (l : List UInt8) (a : Nat) (h : a < l.length) (h59 : atI l a ≠ 59) (hc : isBl (atI l a) = false) (kind n : Int) (k : Nat) (ht : tokAt (l.drop a) = some (kind, n, k)) :
    scan (l.drop a) a = ext [{ kind := kind, text := (l.drop a).take k, num := n, place := a }] (scan (l.drop (a + k)) (a + k)) := by
  have hk := (tokAt_some _ _ _ _ ht).1
  obtain ⟨b, hb, hv⟩ := drop_head l a h
  rw [hb] at ht
  rw [hb, scan, if_neg (by rw [hv]; exact h59), if_neg (by rw [hv, hc]; simp), ht]
  simp only
  rw [List.drop_drop, show a + 1 + (k - 1) = a + k by omega]
  cases scan (l.drop (a + k)) (a + k) <;> rfl

theorem ext_ext (acc : List Tok) (t : Tok) (x : Except Nat (List Tok)) : ext acc (ext [t] x) = ext (acc ++ [t]) x := by cases x <;> simp [ext]

/-- the tokens are no more than the bytes -/
theorem scan_len (r : List UInt8) (a : Nat) (ts : List Tok) (h : scan r a = .ok ts) : ts.length ≤ r.length := by
  induction hn : r.length using Nat.strongRecOn generalizing r a ts with
  | _ n ih =>
    subst hn
    cases r with
    | nil => unfold scan at h; cases h; simp
    | cons b r =>
      unfold scan at h
      split at h
      · cases h; simp
      · split at h
        · have := ih r.length (by simp) r _ ts h rfl
          simp; omega
        · split at h
          · cases h
          · split at h
            · rename_i kind n k heq1 _ us heq2
              have hk := tokAt_some _ _ _ _ heq1
              have := ih (r.drop (k - 1)).length (by simp; omega) _ _ us heq2 rfl
              simp only [List.length_drop] at this
              cases h
              simp
              omega
            · cases h
end Go.Proofs.YtijdjljnppkhmabDoor
