/- Sums and products of terms, as the laws hold them against each other. -/
import Derived.Test.YtijdjljnppkhmaaDoorRight
import Derived.Test.YtijdjljnppkhmaaDoorSameT
namespace Go.Proofs.YtijdjljnppkhmaaDoor
set_option linter.unusedVariables false

theorem right_tail {p : Option (List UInt8)} {t : Tm} {r : List Tm} (h : rightF p (t :: r) = true) : t.coef ≠ 0 ∧ legB (str t.name) = true ∧ (∀ q, p = some q → nlt q t.name = true) ∧ rightF (some t.name) r = true := by
  simp only [rightF, okT, Bool.and_eq_true, decide_eq_true_eq] at h
  refine ⟨h.1.1, h.1.2.1, fun q hq => ?_, h.2⟩
  subst hq
  exact h.1.2.2

theorem right_legal {ts : List Tm} : ∀ {p : Option (List UInt8)}, rightF p ts = true → ∀ t ∈ ts, legB (str t.name) = true := by
  induction ts with
  | nil => intro p h t ht; cases ht
  | cons x r ih =>
    intro p h t ht
    obtain ⟨_, h2, _, h4⟩ := right_tail h
    rcases List.mem_cons.1 ht with rfl | ht
    · exact h2
    · exact ih h4 t ht

theorem right_rise {ts : List Tm} : ∀ {q : List UInt8}, rightF (some q) ts = true → ∀ t ∈ ts, nlt q t.name = true := by
  induction ts with
  | nil => intro q h t ht; cases ht
  | cons x r ih =>
    intro q h t ht
    obtain ⟨_, _, h3, h4⟩ := right_tail h
    rcases List.mem_cons.1 ht with rfl | ht
    · exact h3 q rfl
    · exact nlt_trans (h3 q rfl) (ih h4 t ht)

theorem right_canon {ts : List Tm} (hc : ∀ t ∈ ts, 0 ≤ t.coef ∧ t.coef < 4294967296) : ∀ {p : Option (List UInt8)}, rightF p ts = true → Canon ts := by
  induction ts with
  | nil => intro p h; exact Canon.nil
  | cons x r ih =>
    intro p h
    obtain ⟨h1, _, _, h4⟩ := right_tail h
    have hr := ih (fun t ht => hc t (by simp [ht])) h4
    refine ⟨List.pairwise_cons.2 ⟨right_rise h4, hr.rise⟩, fun t ht => ?_⟩
    rcases List.mem_cons.1 ht with rfl | ht
    · have := hc t (by simp)
      omega
    · exact hr.some t ht

theorem canon_right {ts : List Tm} (hl : ∀ t ∈ ts, legB (str t.name) = true) : ∀ {p : Option (List UInt8)}, Canon ts → (∀ q, p = some q → ∀ t ∈ ts, nlt q t.name = true) → rightF p ts = true := by
  induction ts with
  | nil => intro p h hp; rfl
  | cons x r ih =>
    intro p h hp
    have h1 := h.some x (by simp)
    have h2 := ih (fun t ht => hl t (by simp [ht])) (p := some x.name) h.tail (fun q hq t ht => by cases hq; exact h.head t ht)
    simp only [rightF, okT, Bool.and_eq_true, decide_eq_true_eq]
    refine ⟨⟨by omega, hl x (by simp), ?_⟩, h2⟩
    cases p with
    | none => rfl
    | some q => exact hp q rfl x (by simp)

theorem mem_gather {l : List Tm} {t : Tm} (h : t ∈ gather l) : ∃ x ∈ l, x.name = t.name := by
  cases l with
  | nil => cases h
  | cons y r =>
    rw [gather_gat] at h
    rcases mem_gat h with h | h
    · exact ⟨y, by simp, h.symm⟩
    · exact h

theorem mem_norm {l : List Tm} {t : Tm} (h : t ∈ norm l) : ∃ x ∈ l, x.name = t.name := by
  obtain ⟨x, hx, he⟩ := mem_gather h
  exact ⟨x, (List.mergeSort_perm l leT).mem_iff.1 hx, he⟩

theorem add_legal {a b : List Tm} (ha : ∀ t ∈ a, legB (str t.name) = true) (hb : ∀ t ∈ b, legB (str t.name) = true) : ∀ t ∈ addT a b, legB (str t.name) = true := by
  intro t ht
  obtain ⟨x, hx, he⟩ := mem_norm ht
  rw [← he]
  rcases List.mem_append.1 hx with hx | hx
  · exact ha x hx
  · exact hb x hx

theorem add_right {a b : List Tm} (ha : ∀ t ∈ a, legB (str t.name) = true) (hb : ∀ t ∈ b, legB (str t.name) = true) : rightF none (addT a b) = true :=
  canon_right (add_legal ha hb) (canon_add a b) (fun q hq => by cases hq)

theorem same_true {xs ys : List Tm} {k1 k2 : Int} (h : xs = ys) (hk : k1 = k2) : sameL xs ys k1 k2 = true := by simp [sameL, h, hk]

theorem add_turn (x y z : List Tm) : addT (addT x y) z = addT y (addT z x) :=
  canon_unique (canon_add _ _) (canon_add _ _) fun n => by
    rw [cf_add, cf_add]
    have h1 := cf_add n x y
    have h2 := cf_add n z x
    omega

theorem mul_mod2 (a b n : Int) (h : a % 4294967296 = b % 4294967296) : a * n % 4294967296 = b * n % 4294967296 := by rw [mul_mod32 a, mul_mod32 b, h]

theorem times_add (x y : List Tm) (n : Int) : addT (timesT x n) (timesT y n) = timesT (addT x y) n :=
  canon_unique (canon_add _ _) (canon_times (canon_add _ _) n) fun m => by
    rw [cf_add, cf_times]
    have h1 := cf_times m x n
    have h2 := cf_times m y n
    have h3 := mul_mod2 _ _ n (cf_add m x y)
    rw [h3, Int.add_mul]
    omega

theorem add_minus (x : List Tm) : addT x (timesT x 4294967295) = [] :=
  canon_unique (canon_add _ _) Canon.nil fun m => by
    rw [cf_add]
    have h1 := cf_times m x 4294967295
    simp only [cfOf]
    omega

theorem k_turn (a b c : Int) : ((a + b) % 4294967296 + c) % 4294967296 = (b + (c + a) % 4294967296) % 4294967296 := by omega
theorem k_times (a b n : Int) : (a * n % 4294967296 + b * n % 4294967296) % 4294967296 = (a + b) % 4294967296 * n % 4294967296 := by
  rw [← mul_mod32, Int.add_mul]
  omega
theorem k_minus (a : Int) : (a + a * 4294967295 % 4294967296) % 4294967296 = 0 := by omega
end Go.Proofs.YtijdjljnppkhmaaDoor
