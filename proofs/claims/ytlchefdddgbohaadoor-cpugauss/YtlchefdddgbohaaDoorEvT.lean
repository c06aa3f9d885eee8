/- Tries whose keys are numbers. -/
noncomputable section
namespace Go.Ev
inductive Tr (α : Type) where
  | lf
  | nd (v : Option α) (l r : Tr α)
namespace Tr
variable {α : Type}
noncomputable def get (t : Tr α) : Nat → Option α :=
  Tr.rec (motive := fun _ => Nat → Option α) (fun _ => none) (fun v _ _ gl gr k => Bool.rec (motive := fun _ => Option α) (Bool.rec (motive := fun _ => Option α) (gr (Nat.sub (Nat.div k 2) 1)) (gl (Nat.div k 2)) (Nat.beq (Nat.mod k 2) 1)) v (Nat.beq k 0)) t
noncomputable def sing (n : Nat) (k : Nat) (x : α) : Tr α :=
  Nat.rec (motive := fun _ => Nat → Tr α) (fun _ => lf) (fun _ g k => Bool.rec (motive := fun _ => Tr α) (Bool.rec (motive := fun _ => Tr α) (nd none lf (g (Nat.sub (Nat.div k 2) 1))) (nd none (g (Nat.div k 2)) lf) (Nat.beq (Nat.mod k 2) 1)) (nd (some x) lf lf) (Nat.beq k 0)) n k
noncomputable def put (n : Nat) (t : Tr α) (k : Nat) (x : α) : Tr α :=
  Tr.rec (motive := fun _ => Nat → Tr α) (fun k => sing n k x) (fun v l r gl gr k => Bool.rec (motive := fun _ => Tr α) (Bool.rec (motive := fun _ => Tr α) (nd v l (gr (Nat.sub (Nat.div k 2) 1))) (nd v (gl (Nat.div k 2)) r) (Nat.beq (Nat.mod k 2) 1)) (nd (some x) l r) (Nat.beq k 0)) t k
noncomputable def del (t : Tr α) : Nat → Tr α :=
  Tr.rec (motive := fun _ => Nat → Tr α) (fun _ => lf) (fun v l r gl gr k => Bool.rec (motive := fun _ => Tr α) (Bool.rec (motive := fun _ => Tr α) (nd v l (gr (Nat.sub (Nat.div k 2) 1))) (nd v (gl (Nat.div k 2)) r) (Nat.beq (Nat.mod k 2) 1)) (nd none l r) (Nat.beq k 0)) t
noncomputable def ofL : List α → Nat → Tr α → Tr α
  | [], _, t => t
  | x :: l, k, t => ofL l (k + 1) (put 40 t k x)

theorem beq_iff (a b : Nat) : Nat.beq a b = decide (a = b) := by
  cases h : Nat.beq a b with
  | true => rw [decide_eq_true (Nat.eq_of_beq_eq_true h)]
  | false => rw [decide_eq_false (Nat.ne_of_beq_eq_false h)]
theorem brec {β : Type} (a b : β) (p : Bool) : Bool.rec (motive := fun _ => β) a b p = if p = true then b else a := by cases p <;> simp
theorem get_lf (k : Nat) : get (lf : Tr α) k = none := rfl
theorem get_nd (v : Option α) (l r : Tr α) (k : Nat) : get (nd v l r) k = if k = 0 then v else if k % 2 = 1 then get l (k / 2) else get r (k / 2 - 1) := by
  show Bool.rec (motive := fun _ => Option α) (Bool.rec (motive := fun _ => Option α) (get r (k / 2 - 1)) (get l (k / 2)) (Nat.beq (k % 2) 1)) v (Nat.beq k 0) = _
  rw [brec, brec, beq_iff, beq_iff]
  by_cases h : k = 0
  · simp [h]
  · by_cases h2 : k % 2 = 1 <;> simp [h, h2]
theorem sing_succ (n k : Nat) (x : α) : sing (n + 1) k x = if k = 0 then nd (some x) lf lf else if k % 2 = 1 then nd none (sing n (k / 2) x) lf else nd none lf (sing n (k / 2 - 1) x) := by
  show Bool.rec (motive := fun _ => Tr α) (Bool.rec (motive := fun _ => Tr α) (nd none lf (sing n (k / 2 - 1) x)) (nd none (sing n (k / 2) x) lf) (Nat.beq (k % 2) 1)) (nd (some x) lf lf) (Nat.beq k 0) = _
  rw [brec, brec, beq_iff, beq_iff]
  by_cases h : k = 0
  · simp [h]
  · by_cases h2 : k % 2 = 1 <;> simp [h, h2]
theorem put_lf (n k : Nat) (x : α) : put n lf k x = sing n k x := rfl
theorem put_nd (n : Nat) (v : Option α) (l r : Tr α) (k : Nat) (x : α) : put n (nd v l r) k x = if k = 0 then nd (some x) l r else if k % 2 = 1 then nd v (put n l (k / 2) x) r else nd v l (put n r (k / 2 - 1) x) := by
  show Bool.rec (motive := fun _ => Tr α) (Bool.rec (motive := fun _ => Tr α) (nd v l (put n r (k / 2 - 1) x)) (nd v (put n l (k / 2) x) r) (Nat.beq (k % 2) 1)) (nd (some x) l r) (Nat.beq k 0) = _
  rw [brec, brec, beq_iff, beq_iff]
  by_cases h : k = 0
  · simp [h]
  · by_cases h2 : k % 2 = 1 <;> simp [h, h2]
theorem del_lf (k : Nat) : del (lf : Tr α) k = lf := rfl
theorem del_nd (v : Option α) (l r : Tr α) (k : Nat) : del (nd v l r) k = if k = 0 then nd none l r else if k % 2 = 1 then nd v (del l (k / 2)) r else nd v l (del r (k / 2 - 1)) := by
  show Bool.rec (motive := fun _ => Tr α) (Bool.rec (motive := fun _ => Tr α) (nd v l (del r (k / 2 - 1))) (nd v (del l (k / 2)) r) (Nat.beq (k % 2) 1)) (nd none l r) (Nat.beq k 0) = _
  rw [brec, brec, beq_iff, beq_iff]
  by_cases h : k = 0
  · simp [h]
  · by_cases h2 : k % 2 = 1 <;> simp [h, h2]
theorem get_sing : ∀ (n k : Nat) (x : α) (j : Nat), k + 1 < 2 ^ n → get (sing n k x) j = if j = k then some x else none
  | 0, k, x, j, h => by simp at h
  | n + 1, k, x, j, h => by
    rw [Nat.pow_succ] at h
    rw [sing_succ]
    by_cases hk : k = 0
    · rw [if_pos hk, get_nd, hk]
      by_cases hj : j = 0
      · simp [hj]
      · simp [hj, get_lf]
    · rw [if_neg hk]
      by_cases ho : k % 2 = 1
      · rw [if_pos ho, get_nd]
        by_cases hj : j = 0
        · have : ¬ j = k := by omega
          simp [hj]; omega
        · rw [if_neg hj]
          by_cases hjo : j % 2 = 1
          · rw [if_pos hjo, get_sing n _ x _ (by omega)]
            by_cases e : j = k
            · rw [if_pos e, if_pos (by rw [e])]
            · rw [if_neg e, if_neg (by omega)]
          · rw [if_neg hjo, if_neg (by omega)]; rfl
      · rw [if_neg ho, get_nd]
        by_cases hj : j = 0
        · simp [hj]; omega
        · rw [if_neg hj]
          by_cases hjo : j % 2 = 1
          · rw [if_pos hjo, if_neg (by omega)]; rfl
          · rw [if_neg hjo, get_sing n _ x _ (by omega)]
            by_cases e : j = k
            · rw [if_pos e, if_pos (by rw [e])]
            · rw [if_neg e, if_neg (by omega)]
theorem get_put (n : Nat) : ∀ (t : Tr α) (k : Nat) (x : α) (j : Nat), k + 1 < 2 ^ n → get (put n t k x) j = if j = k then some x else get t j
  | lf, k, x, j, h => by
    rw [put_lf, get_sing _ _ _ _ h]; rfl
  | nd v l r, k, x, j, h => by
    rw [put_nd]
    by_cases hk : k = 0
    · rw [if_pos hk, get_nd, get_nd, hk]
      by_cases hj : j = 0
      · simp [hj]
      · simp [hj]
    · rw [if_neg hk]
      by_cases ho : k % 2 = 1
      · rw [if_pos ho, get_nd, get_nd]
        by_cases hj : j = 0
        · rw [if_pos hj, if_pos hj, if_neg (by omega)]
        · rw [if_neg hj, if_neg hj]
          by_cases hjo : j % 2 = 1
          · rw [if_pos hjo, if_pos hjo, get_put n _ _ x _ (by omega)]
            by_cases e : j = k
            · rw [if_pos e, if_pos (by rw [e])]
            · rw [if_neg e, if_neg (by omega)]
          · rw [if_neg hjo, if_neg hjo, if_neg (by omega)]
      · rw [if_neg ho, get_nd, get_nd]
        by_cases hj : j = 0
        · rw [if_pos hj, if_pos hj, if_neg (by omega)]
        · rw [if_neg hj, if_neg hj]
          by_cases hjo : j % 2 = 1
          · rw [if_pos hjo, if_pos hjo, if_neg (by omega)]
          · rw [if_neg hjo, if_neg hjo, get_put n _ _ x _ (by omega)]
            by_cases e : j = k
            · rw [if_pos e, if_pos (by rw [e])]
            · rw [if_neg e, if_neg (by omega)]
theorem get_del : ∀ (t : Tr α) (k j : Nat), get (del t k) j = if j = k then none else get t j
  | lf, k, j => by
    rw [del_lf]
    split <;> rfl
  | nd v l r, k, j => by
    rw [del_nd]
    by_cases hk : k = 0
    · rw [if_pos hk, get_nd, get_nd, hk]
      by_cases hj : j = 0
      · simp [hj]
      · simp [hj]
    · rw [if_neg hk]
      by_cases ho : k % 2 = 1
      · rw [if_pos ho, get_nd, get_nd]
        by_cases hj : j = 0
        · rw [if_pos hj, if_pos hj, if_neg (by omega)]
        · rw [if_neg hj, if_neg hj]
          by_cases hjo : j % 2 = 1
          · rw [if_pos hjo, if_pos hjo, get_del]
            by_cases e : j = k
            · rw [if_pos e, if_pos (by rw [e])]
            · rw [if_neg e, if_neg (by omega)]
          · rw [if_neg hjo, if_neg hjo, if_neg (by omega)]
      · rw [if_neg ho, get_nd, get_nd]
        by_cases hj : j = 0
        · rw [if_pos hj, if_pos hj, if_neg (by omega)]
        · rw [if_neg hj, if_neg hj]
          by_cases hjo : j % 2 = 1
          · rw [if_pos hjo, if_pos hjo, if_neg (by omega)]
          · rw [if_neg hjo, if_neg hjo, get_del]
            by_cases e : j = k
            · rw [if_pos e, if_pos (by rw [e])]
            · rw [if_neg e, if_neg (by omega)]
theorem get_ofL : ∀ (l : List α) (k : Nat) (t : Tr α) (j : Nat), k + l.length < 2 ^ 39 → get (ofL l k t) j = if k ≤ j ∧ j < k + l.length then l[j - k]? else get t j
  | [], k, t, j, h => by
    rw [ofL, if_neg (by simp)]
  | x :: l, k, t, j, h => by
    have h2 : k + (l.length + 1) < 2 ^ 39 := h
    rw [ofL, get_ofL l (k + 1) _ j (by omega), get_put 40 t k x j (by omega)]
    by_cases e : j = k
    · subst e
      rw [if_neg (by omega), if_pos rfl, if_pos (by simp)]
      simp
    · by_cases c : k + 1 ≤ j ∧ j < k + 1 + l.length
      · rw [if_pos c, if_pos (by simp; omega), show j - k = (j - (k + 1)) + 1 by omega]
        rfl
      · rw [if_neg c, if_neg e, if_neg (by simp; omega)]
end Tr
end Go.Ev
