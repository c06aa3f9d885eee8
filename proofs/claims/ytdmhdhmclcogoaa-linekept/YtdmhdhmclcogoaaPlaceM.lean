/- A refusal's place lies in the line. -/
import Derived.Test.YtdmhdhmclcogoaaAgainM
import Derived.Test.YtdmhdhmclcogoaaLineM
namespace Go.Proofs.Ytdmhdhmclcogoaa
set_option linter.unusedVariables false

theorem scan_places (r : List UInt8) (a : Nat) (ts : List Tok) (h : scan r a = .ok ts) : ∀ t ∈ ts, t.place ≤ a + r.length := by
  induction hn : r.length using Nat.strongRecOn generalizing r a ts with
  | _ n ih =>
    subst hn
    cases r with
    | nil =>
      unfold scan at h
      cases h
      intro t ht
      cases ht
    | cons b r =>
      unfold scan at h
      split at h
      · cases h
        intro t ht
        cases ht
      · split at h
        · intro t ht
          have := ih r.length (by simp) r (a + 1) ts h rfl t ht
          simp
          omega
        · split at h
          · cases h
          · rename_i kind n k heq1
            have hk := tokAt_some _ _ _ _ heq1
            split at h
            · rename_i us hus
              cases h
              intro t ht
              rcases List.mem_cons.1 ht with rfl | ht
              · exact Nat.le_add_right _ _
              · have := ih (r.drop (k - 1)).length (by simp; omega) _ _ us hus rfl t ht
                have hk2 := hk.2
                simp at this hk2 ⊢
                omega
            · cases h

theorem argsF_place (n : Nat) (ts arg : List Tok) (acc : List (List Tok)) (p : Nat) (h : ∀ t ∈ ts, t.place ≤ n) (he : argsF n ts arg acc = .error p) : p ≤ n := by
  induction ts generalizing arg acc with
  | nil =>
    unfold argsF at he
    split at he
    · cases he; exact Nat.le_refl _
    · cases he
  | cons t ts ih =>
    unfold argsF at he
    have ht := h t (by simp)
    split at he
    · cases he; exact ht
    · split at he
      · split at he
        · cases he; exact ht
        · exact ih _ _ (fun x hx => h x (by simp [hx])) he
      · exact ih _ _ (fun x hx => h x (by simp [hx])) he

theorem cutT_mem (ts : List Tok) : ∀ t ∈ (cutT ts).2, t ∈ ts := by
  match ts with
  | [] => intro t ht; exact ht
  | [x] => intro t ht; exact ht
  | x :: u :: r =>
    intro t ht
    simp only [cutT] at ht
    split at ht
    · simp at ht; simp [ht]
    · exact ht

theorem parseL_place (s : List UInt8) (p : Nat) (h : parseL s = .error p) : p ≤ s.length := by
  unfold parseL at h
  cases hs : scan s 0 with
  | error q =>
    rw [hs] at h
    cases h
    have := scan_place s _ 0 p rfl hs
    omega
  | ok ts =>
    rw [hs] at h
    have hp := scan_places s 0 ts hs
    unfold parseT lineT at h
    simp only at h
    have hm := cutT_mem ts
    split at h
    · cases h
    · rename_i t r heq
      rw [heq] at hm
      split at h
      · split at h
        · cases h
        · rename_i q hq
          cases h
          unfold argsT at hq
          split at hq
          · cases hq
          · refine argsF_place s.length r [] [] p (fun x hx => ?_) hq
            have := hp x (hm x (by simp [hx]))
            omega
      · cases h
        have := hp t (hm t (by simp))
        omega

theorem argsF_few (n : Nat) (ts arg : List Tok) (acc out : List (List Tok)) (h : argsF n ts arg acc = .ok out) : out.length ≤ acc.length + ts.length + 1 ∧ ∀ xs ∈ out, xs ∈ acc ∨ xs.length ≤ arg.length + ts.length := by
  induction ts generalizing arg acc with
  | nil =>
    unfold argsF at h
    split at h
    · cases h
    · cases h
      refine ⟨by simp, fun xs hx => ?_⟩
      rcases List.mem_append.1 hx with hx | hx
      · exact .inl hx
      · simp at hx; subst hx; exact .inr (by simp)
  | cons t ts ih =>
    unfold argsF at h
    split at h
    · cases h
    · split at h
      · split at h
        · cases h
        · obtain ⟨h1, h2⟩ := ih _ _ h
          refine ⟨by simp at h1 ⊢; omega, fun xs hx => ?_⟩
          rcases h2 xs hx with k | k
          · rcases List.mem_append.1 k with k | k
            · exact .inl k
            · simp at k; subst k; exact .inr (by simp)
          · exact .inr (by simp at k ⊢; omega)
      · obtain ⟨h1, h2⟩ := ih _ _ h
        refine ⟨by simp at h1 ⊢; omega, fun xs hx => ?_⟩
        rcases h2 xs hx with k | k
        · exact .inl k
        · exact .inr (by simp at k ⊢; omega)

theorem cutT_len (ts : List Tok) : (cutT ts).2.length ≤ ts.length := by
  match ts with
  | [] => simp [cutT]
  | [t] => simp [cutT]
  | t :: u :: r =>
    simp only [cutT]
    split
    · simp; omega
    · simp

theorem parseL_few (s : List UInt8) (L : Ln) (h : parseL s = .ok L) : L.args.length ≤ s.length + 1 ∧ ∀ xs ∈ L.args, xs.length ≤ s.length := by
  unfold parseL at h
  cases hs : scan s 0 with
  | error q => rw [hs] at h; cases h
  | ok ts =>
    rw [hs] at h
    have hl := scan_len _ _ _ hs
    have hc := cutT_len ts
    unfold parseT lineT at h
    simp only at h
    split at h
    · cases h
      exact ⟨by simp, fun xs hx => by cases hx⟩
    · rename_i t r heq
      rw [heq] at hc
      simp at hc
      split at h
      · split at h
        · rename_i out hq
          cases h
          unfold argsT at hq
          split at hq
          · cases hq
            exact ⟨by simp, fun xs hx => by cases hx⟩
          · obtain ⟨h1, h2⟩ := argsF_few _ _ _ _ _ hq
            refine ⟨by simp at h1 ⊢; omega, fun xs hx => ?_⟩
            rcases h2 xs hx with k | k
            · cases k
            · simp at k; omega
        · cases h
      · cases h

theorem argsF_mem (n : Nat) (P : Tok → Prop) (ts arg : List Tok) (acc out : List (List Tok)) (h : argsF n ts arg acc = .ok out) (h1 : ∀ t ∈ ts, P t) (h2 : ∀ t ∈ arg, P t) (h3 : ∀ xs ∈ acc, ∀ t ∈ xs, P t) : ∀ xs ∈ out, ∀ t ∈ xs, P t := by
  induction ts generalizing arg acc with
  | nil =>
    unfold argsF at h
    split at h
    · cases h
    · cases h
      intro xs hx
      rcases List.mem_append.1 hx with hx | hx
      · exact h3 xs hx
      · simp at hx; subst hx; exact h2
  | cons t ts ih =>
    unfold argsF at h
    have h1' : ∀ x ∈ ts, P x := fun x hx => h1 x (by simp [hx])
    split at h
    · cases h
    · split at h
      · split at h
        · cases h
        · refine ih _ _ h h1' (fun x hx => by cases hx) (fun xs hx => ?_)
          rcases List.mem_append.1 hx with hx | hx
          · exact h3 xs hx
          · simp at hx; subst hx; exact h2
      · refine ih _ _ h h1' (fun x hx => ?_) h3
        rcases List.mem_append.1 hx with hx | hx
        · exact h2 x hx
        · simp at hx; subst hx; exact h1 x (by simp)

theorem parseL_mem (s : List UInt8) (L : Ln) (h : parseL s = .ok L) : ∀ xs ∈ L.args, ∀ t ∈ xs, t.place ≤ s.length := by
  unfold parseL at h
  cases hs : scan s 0 with
  | error q => rw [hs] at h; cases h
  | ok ts =>
    rw [hs] at h
    have hp := scan_places s 0 ts hs
    have hm := cutT_mem ts
    unfold parseT lineT at h
    simp only at h
    split at h
    · cases h
      intro xs hx
      cases hx
    · rename_i t r heq
      rw [heq] at hm
      split at h
      · split at h
        · rename_i out hq
          cases h
          unfold argsT at hq
          split at hq
          · cases hq
            intro xs hx
            cases hx
          · refine argsF_mem _ (fun t => t.place ≤ s.length) _ _ _ _ hq (fun x hx => ?_) (fun x hx => by cases hx) (fun x hx => by cases hx)
            have := hp x (hm x (by simp [hx]))
            omega
        · cases h
      · cases h
end Go.Proofs.Ytdmhdhmclcogoaa
