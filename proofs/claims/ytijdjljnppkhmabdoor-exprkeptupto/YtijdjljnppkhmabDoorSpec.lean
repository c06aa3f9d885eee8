/- What a number, a token and the tokens of a text are, as functions on its bytes. -/
import Derived.Test.YtijdjljnppkhmabDoorBase
namespace Go.Proofs.YtijdjljnppkhmabDoor
set_option linter.unusedVariables false
set_option maxRecDepth 100000

/-- how many bytes of a kind stand at the head -/
def lenW (p : Int → Bool) (r : List UInt8) : Nat := (r.takeWhile fun b => p (b.toNat : Int)).length

theorem lenW_nil (p : Int → Bool) : lenW p [] = 0 := rfl

theorem atI_zero_cons (b : UInt8) (r : List UInt8) : atI (b :: r) 0 = (b.toNat : Int) := rfl
theorem atI_succ_cons (b : UInt8) (r : List UInt8) (k : Nat) : atI (b :: r) (k + 1) = atI r k := by simp [atI]
theorem atI_nil (k : Nat) : atI [] k = 0 := by simp [atI]

theorem lenW_stop (p : Int → Bool) (r : List UInt8) (h : p (atI r 0) = false) : lenW p r = 0 := by
  cases r with
  | nil => rfl
  | cons b r => simp [lenW, List.takeWhile, atI_zero_cons] at h ⊢; simp [h]

theorem lenW_more (p : Int → Bool) (hp : p 0 = false) (r : List UInt8) (h : p (atI r 0) = true) : lenW p r = lenW p (r.drop 1) + 1 ∧ 0 < r.length := by
  cases r with
  | nil => rw [atI_nil, hp] at h; cases h
  | cons b r => simp [lenW, List.takeWhile, atI_zero_cons] at h ⊢; simp [h]

theorem lenW_le (p : Int → Bool) (r : List UInt8) : lenW p r ≤ r.length := by
  unfold lenW
  exact (List.takeWhile_sublist _).length_le

theorem lenW_take (p : Int → Bool) (r : List UInt8) : r.takeWhile (fun b => p (b.toNat : Int)) = r.take (lenW p r) := by
  unfold lenW
  induction r with
  | nil => rfl
  | cons b r ih =>
    simp only [List.takeWhile]
    split
    · simp; exact ih
    · simp

theorem take_all (p : Int → Bool) (r : List UInt8) : ∀ b ∈ r.take (lenW p r), p (b.toNat : Int) = true := by
  rw [← lenW_take]
  induction r with
  | nil => intro b hb; simp at hb
  | cons x r ih =>
    intro b hb
    cases hx : p (x.toNat : Int)
    · simp [List.takeWhile, hx] at hb
    · simp only [List.takeWhile, hx, List.mem_cons] at hb
      rcases hb with rfl | hb
      · exact hx
      · exact ih b hb

/-- what stands behind them is of another kind -/
theorem lenW_end (p : Int → Bool) (hp : p 0 = false) (r : List UInt8) : p (atI r (lenW p r)) = false := by
  induction r with
  | nil => simpa [atI_nil] using hp
  | cons b r ih =>
    cases h : p (b.toNat : Int)
    · rw [lenW_stop p _ (by rw [atI_zero_cons]; exact h), atI_zero_cons]; exact h
    · have := (lenW_more p hp (b :: r) (by rw [atI_zero_cons]; exact h)).1
      rw [this, List.drop_one, List.tail_cons, atI_succ_cons]
      exact ih

theorem lenW_in (p : Int → Bool) (r : List UInt8) (k : Nat) (h : k < lenW p r) : p (atI r k) = true := by
  induction r generalizing k with
  | nil => simp [lenW] at h
  | cons b r ih =>
    cases hb : p (b.toNat : Int)
    · rw [lenW_stop p _ (by rw [atI_zero_cons]; exact hb)] at h; omega
    · cases k with
      | zero => rw [atI_zero_cons]; exact hb
      | succ k =>
        rw [atI_succ_cons]
        apply ih
        simp [lenW, List.takeWhile, hb] at h ⊢
        exact h

theorem inW_zero : inW 0 = false := rfl
theorem isDig_zero : isDig 0 = false := rfl
theorem isHex_zero : isHex 0 = false := rfl

/-- the number that digits are, behind a number -/
def val (base : Int) (n : Int) (ds : List UInt8) : Int := ds.foldl (fun n b => base * n + digI (b.toNat : Int)) n

theorem digI_lo (c : Int) (h : isHex c = true) : 0 ≤ digI c ∧ digI c ≤ 15 := by
  simp [isHex, isDig] at h
  unfold digI
  split <;> omega
theorem digI_dig (c : Int) (h : isDig c = true) : 0 ≤ digI c ∧ digI c ≤ 9 := by
  simp [isDig] at h
  unfold digI
  rw [if_pos h]
  omega
theorem isHex_of_dig (c : Int) (h : isDig c = true) : isHex c = true := by simp [isHex, h]
theorem inW_of_hex (c : Int) (h : isHex c = true) : inW c = true := by
  simp [isHex, isDig] at h
  simp [inW, isDig, isLet]
  omega
theorem inW_of_dig (c : Int) (h : isDig c = true) : inW c = true := inW_of_hex c (isHex_of_dig c h)

theorem val_cons (base n : Int) (b : UInt8) (ds : List UInt8) : val base n (b :: ds) = val base (base * n + digI (b.toNat : Int)) ds := rfl
theorem val_nil (base n : Int) : val base n [] = n := rfl
theorem val_append (base n : Int) (ds es : List UInt8) : val base n (ds ++ es) = val base (val base n ds) es := by
  unfold val; rw [List.foldl_append]

theorem val_ge (n : Int) (ds : List UInt8) (hn : 0 ≤ n) (h : ∀ b ∈ ds, isDig (b.toNat : Int) = true) : n ≤ val 10 n ds := by
  induction ds generalizing n with
  | nil => exact Int.le_refl _
  | cons b ds ih =>
    have hb := digI_dig _ (h b (by simp))
    rw [val_cons]
    have := ih (10 * n + digI (b.toNat : Int)) (by omega) (fun x hx => h x (by simp [hx]))
    omega

/-- one digit more at the head -/
theorem take_more (p : Int → Bool) (hp : p 0 = false) (r : List UInt8) (h : p (atI r 0) = true) (base n : Int) :
    val base n (r.take (lenW p r)) = val base (base * n + digI (atI r 0)) ((r.drop 1).take (lenW p (r.drop 1))) := by
  cases r with
  | nil => rw [atI_nil, hp] at h; cases h
  | cons b r =>
    rw [(lenW_more p hp _ h).1]
    simp only [List.drop_one, List.tail_cons, List.take_succ_cons]
    rw [val_cons, atI_zero_cons]

/-- how many of the digits 0 to f stand at the head, k at most -/
def hexLen (k : Nat) (r : List UInt8) : Nat := min k (lenW isHex r)

theorem hexLen_stop (k : Nat) (r : List UInt8) (h : isHex (atI r 0) = false ∨ k = 0) : hexLen k r = 0 := by
  unfold hexLen
  rcases h with h | h
  · rw [lenW_stop _ _ h]; simp
  · simp [h]
theorem hexLen_more (k : Nat) (r : List UInt8) (h : isHex (atI r 0) = true) : hexLen (k + 1) r = hexLen k (r.drop 1) + 1 := by
  unfold hexLen
  rw [(lenW_more _ isHex_zero _ h).1]
  omega
theorem hexTake_more (k : Nat) (r : List UInt8) (h : isHex (atI r 0) = true) (n : Int) :
    val 16 n (r.take (hexLen (k + 1) r)) = val 16 (16 * n + digI (atI r 0)) ((r.drop 1).take (hexLen k (r.drop 1))) := by
  rw [hexLen_more k r h]
  cases r with
  | nil => rw [atI_nil, isHex_zero] at h; cases h
  | cons b r => simp only [List.drop_one, List.tail_cons, List.take_succ_cons, val_cons, atI_zero_cons]

/-- the number that begins at the head, and how many bytes it has -/
def numAt (r : List UInt8) : Option (Int × Nat) :=
  if atI r 0 = 39 then (if isQuo (atI r 1) = true ∧ atI r 2 = 39 then some (atI r 1, 3) else none)
  else if atI r 0 = 48 ∧ atI r 1 = 120 then
    (if hexLen 8 (r.drop 2) = 0 ∨ inW (atI r (2 + hexLen 8 (r.drop 2))) = true then none else some (val 16 0 ((r.drop 2).take (hexLen 8 (r.drop 2))), 2 + hexLen 8 (r.drop 2)))
  else if atI r 0 = 48 then (if inW (atI r 1) = true then none else some (0, 1))
  else (if 4294967295 < val 10 0 (r.take (lenW isDig r)) ∨ inW (atI r (lenW isDig r)) = true then none else some (val 10 0 (r.take (lenW isDig r)), lenW isDig r))

def numN (r : List UInt8) : Int := match numAt r with | some (n, _) => n | none => 0
def numL (r : List UInt8) : Nat := match numAt r with | some (_, k) => k | none => 0

theorem hex_step (i : Nat) (n d : Int) (hi : i < 8) (n0 : 0 ≤ n) (n1 : n < 16 ^ i) (d0 : 0 ≤ d) (d1 : d ≤ 15) : 0 ≤ 16 * n + d ∧ 16 * n + d < 16 ^ (i + 1) ∧ 16 * n + d ≤ 4294967295 := by
  have : i = 0 ∨ i = 1 ∨ i = 2 ∨ i = 3 ∨ i = 4 ∨ i = 5 ∨ i = 6 ∨ i = 7 := by omega
  rcases this with rfl | rfl | rfl | rfl | rfl | rfl | rfl | rfl <;> simp at n1 ⊢ <;> omega
theorem hex_small (i : Nat) (n : Int) (hi : i ≤ 8) (n1 : n < 16 ^ i) : n ≤ 4294967295 := by
  have : i = 0 ∨ i = 1 ∨ i = 2 ∨ i = 3 ∨ i = 4 ∨ i = 5 ∨ i = 6 ∨ i = 7 ∨ i = 8 := by omega
  rcases this with rfl | rfl | rfl | rfl | rfl | rfl | rfl | rfl | rfl <;> simp at n1 ⊢ <;> omega

/-- what is answered of a number: none, if it is bad; else it, and the place behind it -/
def Res (N T : Int) (at_ : Nat) (bad : Prop) (v : Int) (k : Nat) : Prop := (bad → N = 0 ∧ T = (at_ : Int)) ∧ (¬ bad → N = v ∧ T = (k : Int))

theorem Res.bad {N T : Int} {at_ : Nat} {bad : Prop} {v : Int} {k : Nat} (h : Res N T at_ bad v k) (hb : bad) : N = 0 ∧ T = (at_ : Int) := h.1 hb
theorem Res.good {N T : Int} {at_ : Nat} {bad : Prop} {v : Int} {k : Nat} (h : Res N T at_ bad v k) (hb : ¬ bad) : N = v ∧ T = (k : Int) := h.2 hb
theorem Res.turn {N T : Int} {at_ : Nat} {bad bad' : Prop} {v v' : Int} {k k' : Nat} (h : Res N T at_ bad v k) (hb : bad' ↔ bad) (hv : v' = v) (hk : k' = k) : Res N T at_ bad' v' k' := by
  subst hv hk
  exact ⟨fun x => h.1 (hb.1 x), fun x => h.2 fun y => x (hb.2 y)⟩

/-- a token: its kind, its bytes, its number, its place -/
structure Tok where
  kind : Int
  text : List UInt8
  num : Int
  place : Nat

/-- the token that begins at the head: its kind, its number, how many bytes it has -/
def tokAt (r : List UInt8) : Option (Int × Int × Nat) :=
  if isLet (atI r 0) = true then (if lenW inW r ≤ 32 then some (1, 0, lenW inW r) else none)
  else if isDig (atI r 0) = true ∨ atI r 0 = 39 then
    (if numL r = 0 then none else some (2, numN r, numL r))
  else if isSg (atI r 0) = true then some (3, 0, 1)
  else none

/-- the tokens of a text that begins at a place, or the place of the first byte that begins none -/
def scan (r : List UInt8) (at_ : Nat) : Except Nat (List Tok) :=
  match r with
  | [] => .ok []
  | b :: r' =>
    if (b.toNat : Int) = 59 then .ok []
    else if isBl (b.toNat : Int) = true then scan r' (at_ + 1)
    else match tokAt (b :: r') with
      | none => .error at_
      | some (kind, n, k) =>
        match scan (r'.drop (k - 1)) (at_ + k) with
        | .ok ts => .ok ({ kind := kind, text := (b :: r').take k, num := n, place := at_ } :: ts)
        | .error p => .error p
  termination_by r.length
  decreasing_by all_goals simp; try omega
end Go.Proofs.YtijdjljnppkhmabDoor
