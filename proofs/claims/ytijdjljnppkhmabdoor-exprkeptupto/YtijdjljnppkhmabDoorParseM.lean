/- What an expression is, as a function on its tokens. -/
import Derived.Test.YtijdjljnppkhmabDoorNames2
import Derived.Test.YtijdjljnppkhmabDoorLinM
namespace Go.Proofs.YtijdjljnppkhmabDoor
set_option linter.unusedVariables false

/-- terms and a number -/
structure Lin where
  terms : List Tm
  const : Int

/-- is a token this sign? -/
def isS (t : Tok) (c : UInt8) : Bool := decide (t.kind = 3) && decide (t.text = [c])

def timesL (x : Lin) (n : Int) : Lin := ⟨timesT x.terms n, x.const * n % 4294967296⟩

/-- the signs ahead of a factor -/
def minusF : List Tok → Int → Int × List Tok
  | [], c => (c, [])
  | t :: r, c => if isS t 45 = true then minusF r ((-c) % 4294967296) else (c, t :: r)

/-- a factor of one token -/
def singleF (t : Tok) : Option Lin :=
  if t.kind = 2 then some ⟨[], t.num⟩ else if t.kind = 1 ∧ legB (str t.text) = true then some ⟨[⟨t.text, 1⟩], 0⟩ else none

abbrev PRes := Except Int (Lin × List Tok)

/-- behind a parenthesis: it is closed -/
def closeF (c : Int) : PRes → PRes
  | .error e => .error e
  | .ok (x, []) => .error 20
  | .ok (x, u :: r) => if isS u 41 = true then .ok (timesL x c, r) else .error 20

/-- a factor, behind its signs -/
def bareF (within : List Tok → PRes) (c : Int) : List Tok → PRes
  | [] => .error 20
  | t :: r => if isS t 40 = true then closeF c (within r) else
    match singleF t with
    | none => .error 20
    | some x => .ok (timesL x c, r)

def factorF (within : List Tok → PRes) (ts : List Tok) : PRes := bareF within (minusF ts 1).1 (minusF ts 1).2

def productF (x y : Lin) : Option Lin :=
  if y.terms.length = 0 then some (timesL x y.const) else if x.terms.length = 0 then some (timesL y x.const) else none

/-- factors with * between them; x: what was read -/
def partL (within : List Tok → PRes) : Nat → Lin → List Tok → PRes
  | 0, x, ts => .ok (x, ts)
  | f + 1, x, [] => .ok (x, [])
  | f + 1, x, t :: r => if isS t 42 = true then
      match factorF within r with
      | .error e => .error e
      | .ok (y, r') =>
        match productF x y with
        | none => .error 21
        | some z => partL within f z r'
    else .ok (x, t :: r)

def partF (within : List Tok → PRes) (ts : List Tok) : PRes :=
  match factorF within ts with
  | .error e => .error e
  | .ok (x, r) => partL within r.length x r

/-- parts with + and - between them; acc, n: what was read -/
def sumL (within : List Tok → PRes) : Nat → List Tm → Int → List Tok → PRes
  | 0, acc, n, ts => .ok (⟨norm acc, n⟩, ts)
  | f + 1, acc, n, [] => .ok (⟨norm acc, n⟩, [])
  | f + 1, acc, n, t :: r =>
    if isS t 43 = true then
      match partF within r with
      | .error e => .error e
      | .ok (x, r') => sumL within f (acc ++ x.terms) ((n + x.const) % 4294967296) r'
    else if isS t 45 = true then
      match partF within r with
      | .error e => .error e
      | .ok (x, r') => sumL within f (acc ++ timesT x.terms 4294967295) ((n + x.const * 4294967295 % 4294967296) % 4294967296) r'
    else .ok (⟨norm acc, n⟩, t :: r)

def sumF (within : List Tok → PRes) (ts : List Tok) : PRes :=
  match partF within ts with
  | .error e => .error e
  | .ok (x, r) => sumL within r.length x.terms x.const r

/-- d: how many parentheses may still open, and one -/
def sumD : Nat → List Tok → PRes
  | 0, _ => .error 21
  | d + 1, ts => sumF (sumD d) ts

def parseF (ts : List Tok) : Except Int Lin :=
  match sumD 33 ts with
  | .error e => .error e
  | .ok (x, []) => .ok x
  | .ok (_, _ :: _) => .error 20

/-! ### what comes out is right, and there is less left -/

structure GoodL (x : Lin) : Prop where
  canon : Canon x.terms
  lo : 0 ≤ x.const
  hi : x.const < 4294967296

structure Fine (W : List Tok → PRes) : Prop where
  len : ∀ ts x r, W ts = .ok (x, r) → x.terms.length + r.length ≤ ts.length
  good : ∀ ts x r, W ts = .ok (x, r) → GoodL x
  err : ∀ ts e, W ts = .error e → e = 20 ∨ e = 21

theorem timesL_good {x : Lin} (h : Canon x.terms) (n : Int) : GoodL (timesL x n) := ⟨canon_times h n, by simp only [timesL]; omega, by simp only [timesL]; omega⟩

theorem timesL_one {x : Lin} (h : GoodL x) : timesL x 1 = x := by
  obtain ⟨h1, h2, h3⟩ := h
  cases x with
  | mk l c =>
    simp only [timesL] at *
    rw [times_one h1, Int.mul_one, Int.emod_eq_of_lt h2 h3]

theorem minusF_len (ts : List Tok) (c : Int) : (minusF ts c).2.length ≤ ts.length := by
  induction ts generalizing c with
  | nil => simp [minusF]
  | cons t r ih =>
    rw [minusF]
    split
    · have := ih ((-c) % 4294967296); simp; omega
    · simp

theorem minusF_coef (ts : List Tok) (c : Int) (h : c = 1 ∨ c = 4294967295) : (minusF ts c).1 = 1 ∨ (minusF ts c).1 = 4294967295 := by
  induction ts generalizing c with
  | nil => simpa [minusF] using h
  | cons t r ih =>
    rw [minusF]
    split
    · exact ih _ (by omega)
    · exact h

theorem singleF_good {t : Tok} {x : Lin} (h : singleF t = some x) : Canon x.terms := by
  unfold singleF at h
  split at h
  · cases h; exact Canon.nil
  · split at h
    · cases h
      refine ⟨List.pairwise_singleton _ _, fun t ht => ?_⟩
      simp at ht
      subst ht
      show (0 : Int) < 1 ∧ (1 : Int) < 4294967296
      decide
    · cases h

theorem singleF_len {t : Tok} {x : Lin} (h : singleF t = some x) : x.terms.length ≤ 1 := by
  unfold singleF at h
  split at h
  · cases h; simp
  · split at h
    · cases h; simp
    · cases h

theorem closeF_len {c : Int} {R : PRes} {x : Lin} {r : List Tok} (h : closeF c R = .ok (x, r)) : ∃ y u, R = .ok (y, u :: r) ∧ isS u 41 = true ∧ x = timesL y c := by
  match R, h with
  | .ok (y, u :: r'), h =>
    rw [closeF] at h
    split at h
    · cases h; exact ⟨y, u, rfl, by assumption, rfl⟩
    · cases h

theorem closeF_err {c : Int} {R : PRes} {e : Int} (h : closeF c R = .error e) : e = 20 ∨ R = .error e := by
  match R, h with
  | .error e', h => rw [closeF] at h; cases h; exact .inr rfl
  | .ok (y, []), h => rw [closeF] at h; cases h; exact .inl rfl
  | .ok (y, u :: r'), h =>
    rw [closeF] at h
    split at h
    · cases h
    · cases h; exact .inl rfl

/-- what was read is right, and what is left is less -/
def Less (ts : List Tok) (x : Lin) (r : List Tok) : Prop := r.length < ts.length ∧ x.terms.length + r.length ≤ ts.length ∧ GoodL x

theorem bareF_fine {W : List Tok → PRes} (hW : Fine W) (c : Int) : (∀ ts x r, bareF W c ts = .ok (x, r) → Less ts x r) ∧ ∀ ts e, bareF W c ts = .error e → e = 20 ∨ e = 21 := by
  constructor
  · intro ts x r h
    cases ts with
    | nil => cases h
    | cons t ts =>
      rw [bareF] at h
      split at h
      · obtain ⟨y, u, h1, h2, rfl⟩ := closeF_len h
        have h3 := hW.len _ _ _ h1
        have h4 := times_len y.terms c
        simp at h3
        refine ⟨by simp; omega, ?_, timesL_good (hW.good _ _ _ h1).canon _⟩
        show (timesT y.terms c).length + _ ≤ _
        simp
        omega
      · split at h
        · cases h
        · rename_i x' hx
          cases h
          have h3 := singleF_len hx
          have h4 := times_len x'.terms c
          refine ⟨by simp, ?_, timesL_good (singleF_good hx) _⟩
          show (timesT x'.terms c).length + _ ≤ _
          simp
          omega
  · intro ts e h
    cases ts with
    | nil => cases h; exact .inl rfl
    | cons t ts =>
      rw [bareF] at h
      split at h
      · rcases closeF_err h with h | h
        · exact .inl h
        · exact hW.err _ _ h
      · split at h
        · cases h; exact .inl rfl
        · cases h

theorem factorF_fine {W : List Tok → PRes} (hW : Fine W) : (∀ ts x r, factorF W ts = .ok (x, r) → Less ts x r) ∧ ∀ ts e, factorF W ts = .error e → e = 20 ∨ e = 21 := by
  refine ⟨fun ts x r h => ?_, fun ts e h => (bareF_fine hW _).2 _ _ h⟩
  have h1 := (bareF_fine hW _).1 _ _ _ h
  have := minusF_len ts 1
  exact ⟨by have := h1.1; omega, by have := h1.2.1; omega, h1.2.2⟩

theorem productF_good {x y z : Lin} (hx : GoodL x) (hy : GoodL y) (h : productF x y = some z) : GoodL z ∧ (z.terms.length ≤ x.terms.length ∨ z.terms.length ≤ y.terms.length) := by
  unfold productF at h
  split at h
  · cases h; exact ⟨timesL_good hx.canon _, .inl (times_len _ _)⟩
  · split at h
    · cases h; exact ⟨timesL_good hy.canon _, .inr (times_len _ _)⟩
    · cases h

/-- what a loop leaves: less than N places -/
def Loop (N : Nat) (ts : List Tok) (R : PRes) : Prop := (∀ y r, R = .ok (y, r) → r.length ≤ ts.length ∧ y.terms.length + r.length ≤ N ∧ GoodL y) ∧ ∀ e, R = .error e → e = 20 ∨ e = 21

theorem partL_fine {W : List Tok → PRes} (hW : Fine W) (N : Nat) (f : Nat) : ∀ (x : Lin) (ts : List Tok), GoodL x → x.terms.length + ts.length ≤ N → Loop N ts (partL W f x ts) := by
  have hdone : ∀ (x : Lin) (ts : List Tok), GoodL x → x.terms.length + ts.length ≤ N → Loop N ts (.ok (x, ts)) := fun x ts hx hN => ⟨fun y r h => (by cases h; exact ⟨Nat.le_refl _, hN, hx⟩), fun e h => (by cases h)⟩
  induction f with
  | zero => intro x ts hx hN; rw [partL]; exact hdone x ts hx hN
  | succ f ih =>
    intro x ts hx hN
    cases ts with
    | nil => rw [partL]; exact hdone x [] hx hN
    | cons t ts =>
      rw [partL]
      by_cases hs : isS t 42 = true
      · rw [if_pos hs]
        simp only [List.length_cons] at hN
        cases hF : factorF W ts with
        | error e0 =>
          simp only
          exact ⟨fun y r h => (by cases h), fun e h => (by cases h; exact (factorF_fine hW).2 _ _ hF)⟩
        | ok p =>
          obtain ⟨y0, r0⟩ := p
          have h0 := (factorF_fine hW).1 _ _ _ hF
          have h01 := h0.1
          have h02 := h0.2.1
          simp only
          cases hP : productF x y0 with
          | none => simp only; exact ⟨fun y r h => (by cases h), fun e h => (by cases h; exact .inr rfl)⟩
          | some z =>
            simp only
            have hg := productF_good hx h0.2.2 hP
            have := ih z r0 hg.1 (by rcases hg.2 with h | h <;> omega)
            exact ⟨fun y r h => ⟨by have := (this.1 y r h).1; simp; omega, (this.1 y r h).2⟩, this.2⟩
      · rw [if_neg hs]
        exact hdone x (t :: ts) hx hN

theorem partF_fine {W : List Tok → PRes} (hW : Fine W) : (∀ ts x r, partF W ts = .ok (x, r) → Less ts x r) ∧ ∀ ts e, partF W ts = .error e → e = 20 ∨ e = 21 := by
  have hF := factorF_fine hW
  constructor
  · intro ts x r h
    unfold partF at h
    cases hh : factorF W ts with
    | error e => rw [hh] at h; cases h
    | ok p =>
      obtain ⟨y, r0⟩ := p
      rw [hh] at h
      have h0 := hF.1 _ _ _ hh
      have h1 := (partL_fine hW ts.length _ y r0 h0.2.2 h0.2.1).1 _ _ h
      exact ⟨Nat.lt_of_le_of_lt h1.1 h0.1, h1.2.1, h1.2.2⟩
  · intro ts e h
    unfold partF at h
    cases hh : factorF W ts with
    | error e => rw [hh] at h; cases h; exact hF.2 _ _ hh
    | ok p =>
      obtain ⟨y, r0⟩ := p
      rw [hh] at h
      have h0 := hF.1 _ _ _ hh
      exact (partL_fine hW ts.length _ y r0 h0.2.2 h0.2.1).2 _ h

theorem sumL_fine {W : List Tok → PRes} (hW : Fine W) (N : Nat) (f : Nat) : ∀ (acc : List Tm) (n : Int) (ts : List Tok), 0 ≤ n → n < 4294967296 → acc.length + ts.length ≤ N → Loop N ts (sumL W f acc n ts) := by
  have hP := partF_fine hW
  have hdone : ∀ (acc : List Tm) (n : Int) (ts : List Tok), 0 ≤ n → n < 4294967296 → acc.length + ts.length ≤ N → Loop N ts (.ok (⟨norm acc, n⟩, ts)) := fun acc n ts h1 h2 hN => ⟨fun y r h => (by
    cases h
    have := norm_len acc
    exact ⟨Nat.le_refl _, (by show (norm acc).length + _ ≤ _; omega), canon_norm _, h1, h2⟩), fun e h => (by cases h)⟩
  induction f with
  | zero => intro acc n ts h1 h2 hN; rw [sumL]; exact hdone acc n ts h1 h2 hN
  | succ f ih =>
    intro acc n ts h1 h2 hN
    cases ts with
    | nil => rw [sumL]; exact hdone acc n [] h1 h2 hN
    | cons t ts =>
      rw [sumL]
      simp only [List.length_cons] at hN
      by_cases hs : isS t 43 = true
      · rw [if_pos hs]
        cases hF : partF W ts with
        | error e0 =>
          simp only
          exact ⟨fun y r h => (by cases h), fun e h => (by cases h; exact hP.2 _ _ hF)⟩
        | ok p =>
          obtain ⟨y0, r0⟩ := p
          have h0 := hP.1 _ _ _ hF
          have h01 := h0.1
          have h02 := h0.2.1
          simp only
          have := ih (acc ++ y0.terms) ((n + y0.const) % 4294967296) r0 (by omega) (by omega) (by rw [List.length_append]; omega)
          exact ⟨fun y r h => ⟨by have := (this.1 y r h).1; simp; omega, (this.1 y r h).2⟩, this.2⟩
      · rw [if_neg hs]
        by_cases hs2 : isS t 45 = true
        · rw [if_pos hs2]
          cases hF : partF W ts with
          | error e0 =>
            simp only
            exact ⟨fun y r h => (by cases h), fun e h => (by cases h; exact hP.2 _ _ hF)⟩
          | ok p =>
            obtain ⟨y0, r0⟩ := p
            have h0 := hP.1 _ _ _ hF
            have h01 := h0.1
            have h02 := h0.2.1
            have h03 := times_len y0.terms 4294967295
            simp only
            have := ih (acc ++ timesT y0.terms 4294967295) ((n + y0.const * 4294967295 % 4294967296) % 4294967296) r0 (by omega) (by omega) (by rw [List.length_append]; omega)
            exact ⟨fun y r h => ⟨by have := (this.1 y r h).1; simp; omega, (this.1 y r h).2⟩, this.2⟩
        · rw [if_neg hs2]
          exact hdone acc n (t :: ts) h1 h2 (by simpa using hN)

theorem sumF_fine {W : List Tok → PRes} (hW : Fine W) : Fine (sumF W) := by
  have hF := partF_fine hW
  have key : ∀ ts, Loop ts.length ts (sumF W ts) := by
    intro ts
    unfold sumF
    cases hh : partF W ts with
    | error e => simp only; exact ⟨fun x r h => (by cases h), fun e' h => (by cases h; exact hF.2 _ _ hh)⟩
    | ok p =>
      obtain ⟨y, r0⟩ := p
      simp only
      have h0 := hF.1 _ _ _ hh
      have h01 := h0.1
      have := sumL_fine hW ts.length r0.length y.terms y.const r0 h0.2.2.lo h0.2.2.hi h0.2.1
      exact ⟨fun x r h => ⟨by have := (this.1 x r h).1; omega, (this.1 x r h).2⟩, this.2⟩
  exact ⟨fun ts x r h => ((key ts).1 x r h).2.1, fun ts x r h => ((key ts).1 x r h).2.2, fun ts e h => (key ts).2 e h⟩

theorem sumD_fine (d : Nat) : Fine (sumD d) := by
  induction d with
  | zero => exact ⟨fun _ _ _ h => (by cases h), fun _ _ _ h => (by cases h), fun _ _ h => (by cases h; exact .inr rfl)⟩
  | succ d ih => exact sumF_fine ih
end Go.Proofs.YtijdjljnppkhmabDoor
