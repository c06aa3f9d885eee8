/- The document's number, told by how far its loops go. -/
import Derived.Test.YtijdjljnppkhmabDoorCutM
namespace Go.Proofs.YtijdjljnppkhmabDoor
set_option linter.unusedVariables false
set_option maxRecDepth 100000

theorem hexR_none0 (r : List UInt8) (h : atI r 0 = 48) (h1 : atI r 1 = 120) (hz : lenW isHex (r.drop 2) = 0) : numAt r = none := by
  unfold numAt
  rw [if_neg (by omega), if_pos ⟨h, h1⟩, if_pos (Or.inl (by unfold hexLen; rw [hz]; simp))]

theorem hexR_none9 (r : List UInt8) (h : atI r 0 = 48) (h1 : atI r 1 = 120) (hz : 9 ≤ lenW isHex (r.drop 2)) : numAt r = none := by
  have e : hexLen 8 (r.drop 2) = 8 := by unfold hexLen; omega
  have hx := lenW_in isHex (r.drop 2) 8 (by omega)
  rw [atI_drop] at hx
  unfold numAt
  rw [if_neg (by omega), if_pos ⟨h, h1⟩, e, if_pos (Or.inr (inW_of_hex _ hx))]

theorem hexR_word (r : List UInt8) (h : atI r 0 = 48) (h1 : atI r 1 = 120) (j : Nat) (hj : j ≤ 8) (hz : lenW isHex (r.drop 2) = j) (hw : inW (atI r (2 + j)) = true) : numAt r = none := by
  have e : hexLen 8 (r.drop 2) = j := by unfold hexLen; omega
  unfold numAt
  rw [if_neg (by omega), if_pos ⟨h, h1⟩, e, if_pos (Or.inr hw)]

theorem hexR_good (r : List UInt8) (h : atI r 0 = 48) (h1 : atI r 1 = 120) (j : Nat) (hj : j ≤ 8) (h0 : j ≠ 0) (hz : lenW isHex (r.drop 2) = j) (hw : inW (atI r (2 + j)) = false) : numAt r = some (val 16 0 ((r.drop 2).take j), 2 + j) := by
  have e : hexLen 8 (r.drop 2) = j := by unfold hexLen; omega
  unfold numAt
  rw [if_neg (by omega), if_pos ⟨h, h1⟩, e, if_neg (by intro x; rcases x with x | x; exact h0 x; rw [hw] at x; cases x)]

theorem val_pow (n : Int) (ds : List UInt8) (hn : 0 ≤ n) (h : ∀ b ∈ ds, isDig (b.toNat : Int) = true) : n * 10 ^ ds.length ≤ val 10 n ds := by
  induction ds generalizing n with
  | nil => simp [val_nil]
  | cons b ds ih =>
    have hb := digI_dig _ (h b (by simp))
    rw [val_cons]
    have hi := ih (10 * n + digI (b.toNat : Int)) (by omega) (fun x hx => h x (by simp [hx]))
    rw [List.length_cons, Int.pow_succ]
    have hp : (0 : Int) < 10 ^ ds.length := Int.pow_pos (by omega)
    have : n * (10 ^ ds.length * 10) ≤ (10 * n + digI (b.toNat : Int)) * 10 ^ ds.length := by
      rw [Int.add_mul]
      have h2 : 0 ≤ digI (b.toNat : Int) * 10 ^ ds.length := Int.mul_nonneg hb.1 (by omega)
      have h3 : n * (10 ^ ds.length * 10) = 10 * n * 10 ^ ds.length := by
        rw [← Int.mul_assoc, Int.mul_comm _ 10, ← Int.mul_assoc]
      omega
    omega

theorem decR_prefix (r : List UInt8) (j : Nat) (hj : j ≤ lenW isDig r) : val 10 0 (r.take j) ≤ val 10 0 (r.take (lenW isDig r)) := by
  have e : r.take (lenW isDig r) = r.take j ++ (r.take (lenW isDig r)).drop j := by
    have := List.take_append_drop j (r.take (lenW isDig r))
    rw [List.take_take, Nat.min_eq_left hj] at this
    exact this.symm
  rw [e, val_append]
  apply val_ge
  · have : ∀ (ds : List UInt8), (∀ b ∈ ds, isDig (b.toNat : Int) = true) → 0 ≤ val 10 0 ds := fun ds hd => val_ge 0 ds (Int.le_refl _) hd
    apply this
    intro b hb
    apply take_all isDig r b
    exact (List.take_subset_take_left r hj) hb
  · intro b hb
    exact take_all isDig r b (List.mem_of_mem_drop hb)

theorem decR_long (r : List UInt8) (h39 : ¬ atI r 0 = 39) (hx : ¬ (atI r 0 = 48 ∧ atI r 1 = 120)) (hz : 11 ≤ lenW isDig r) : numAt r = none := by
  have hd1 := lenW_in isDig r 1 (by omega)
  have hd0 := lenW_in isDig r 0 (by omega)
  unfold numAt
  rw [if_neg h39, if_neg hx]
  by_cases h0 : atI r 0 = 48
  · rw [if_pos h0, if_pos (inW_of_dig _ hd1)]
  · rw [if_neg h0, if_pos]
    left
    have hpre := decR_prefix r 11 hz
    cases r with
    | nil => simp [lenW] at hz
    | cons b r =>
      rw [List.take_succ_cons, val_cons] at hpre
      have hb : 1 ≤ digI (b.toNat : Int) := by
        rw [atI_zero_cons] at hd0 h0
        simp [isDig] at hd0
        unfold digI
        rw [if_pos hd0]
        omega
      have hle := lenW_le isDig (b :: r)
      have hlen : (r.take 10).length = 10 := by
        rw [List.length_take]
        simp at hle
        omega
      have hp := val_pow (10 * 0 + digI (b.toNat : Int)) (r.take 10) (by omega) (by
        intro x hx
        apply take_all isDig (b :: r) x
        have : (b :: r).take 11 = b :: r.take 10 := rfl
        apply List.take_subset_take_left (b :: r) hz
        rw [this]
        simp [hx])
      rw [hlen] at hp
      have : (10 * 0 + digI (b.toNat : Int)) * 10 ^ 10 ≥ 10000000000 := by
        have : (10 : Int) ^ 10 = 10000000000 := by decide
        rw [this]
        omega
      omega

theorem decR_zero (r : List UInt8) (h0 : atI r 0 = 48) (hz : 2 ≤ lenW isDig r) : numAt r = none := by
  have hd1 := lenW_in isDig r 1 (by omega)
  have hne : ¬ (atI r 0 = 48 ∧ atI r 1 = 120) := by
    rintro ⟨_, h⟩
    rw [h] at hd1
    revert hd1
    decide
  unfold numAt
  rw [if_neg (by omega), if_neg hne, if_pos h0, if_pos (inW_of_dig _ hd1)]

theorem decR_big (r : List UInt8) (h39 : ¬ atI r 0 = 39) (hx : ¬ (atI r 0 = 48 ∧ atI r 1 = 120)) (h0 : ¬ atI r 0 = 48) (hv : 4294967295 < val 10 0 (r.take (lenW isDig r))) : numAt r = none := by
  unfold numAt
  rw [if_neg h39, if_neg hx, if_neg h0, if_pos (Or.inl hv)]

theorem decR_word (r : List UInt8) (h39 : ¬ atI r 0 = 39) (hx : ¬ (atI r 0 = 48 ∧ atI r 1 = 120)) (hz : atI r 0 = 48 → lenW isDig r = 1) (hw : inW (atI r (lenW isDig r)) = true) : numAt r = none := by
  unfold numAt
  rw [if_neg h39, if_neg hx]
  by_cases h0 : atI r 0 = 48
  · rw [hz h0] at hw
    rw [if_pos h0, if_pos hw]
  · rw [if_neg h0, if_pos (Or.inr hw)]

theorem decR_good (r : List UInt8) (h39 : ¬ atI r 0 = 39) (hx : ¬ (atI r 0 = 48 ∧ atI r 1 = 120)) (hz : atI r 0 = 48 → lenW isDig r = 1) (hw : inW (atI r (lenW isDig r)) = false) (hv : val 10 0 (r.take (lenW isDig r)) ≤ 4294967295) :
    numAt r = some (val 10 0 (r.take (lenW isDig r)), lenW isDig r) := by
  unfold numAt
  rw [if_neg h39, if_neg hx]
  by_cases h0 : atI r 0 = 48
  · have hl := hz h0
    rw [hl] at hw ⊢
    rw [if_pos h0, if_neg (by rw [hw]; simp)]
    cases r with
    | nil => simp [lenW] at hl
    | cons b r =>
      rw [atI_zero_cons] at h0
      rw [List.take_succ_cons, List.take_zero, val_cons, val_nil, h0]
      rfl
  · rw [if_neg h0, if_neg (by intro x; rcases x with x | x; omega; rw [hw] at x; cases x)]

/-- a digit more at the end -/
theorem val_snoc (base : Int) (r : List UInt8) (j : Nat) (h : j < r.length) : val base 0 (r.take (j + 1)) = base * val base 0 (r.take j) + digI (atI r j) := by
  rw [List.take_add_one, val_append]
  have e : r[j]?.toList = [r[j]] := by rw [List.getElem?_eq_getElem h]; rfl
  rw [e, val_cons, val_nil]
  congr 2
  unfold atI
  rw [List.getD_eq_getElem?_getD, List.getElem?_eq_getElem h]
  rfl
end Go.Proofs.YtijdjljnppkhmabDoor
