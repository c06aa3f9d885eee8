/- Lins as lists of terms: their coefficients, the one list that has given coefficients, sums and products. -/
import Derived.Lib.Bytealg
namespace Go.Proofs.YtijdjljnppkhmabDoor
set_option linter.unusedVariables false

/-- a name so many times -/
structure Tm where
  name : List UInt8
  coef : Int
deriving DecidableEq

/-- the order of names -/
def nlt (a b : List UInt8) : Bool := Op.bytesLess a b

theorem nlt_nil (a : List UInt8) : nlt a [] = false := by cases a <;> rfl
theorem nlt_cons (a b : UInt8) (x y : List UInt8) : nlt (a :: x) (b :: y) = (decide (a < b) || (a == b && nlt x y)) := rfl

theorem u8_lt_irrefl (a : UInt8) : ¬ a < a := by rw [UInt8.lt_iff_toNat_lt]; omega
theorem u8_trans {a b c : UInt8} (h : a < b) (h2 : b < c) : a < c := by rw [UInt8.lt_iff_toNat_lt] at *; omega
theorem u8_tri (a b : UInt8) : a < b ∨ a = b ∨ b < a := by
  rw [UInt8.lt_iff_toNat_lt, UInt8.lt_iff_toNat_lt, ← UInt8.toNat_inj]
  omega

theorem nlt_irrefl (a : List UInt8) : nlt a a = false := by
  induction a with
  | nil => rfl
  | cons a x ih => rw [nlt_cons, ih]; simp

theorem nlt_trans {a b c : List UInt8} (h : nlt a b = true) (h2 : nlt b c = true) : nlt a c = true := by
  induction a generalizing b c with
  | nil =>
    cases c with
    | nil => rw [nlt_nil] at h2; cases h2
    | cons c z => rfl
  | cons a x ih =>
    cases b with
    | nil => rw [nlt_nil] at h; cases h
    | cons b y =>
      cases c with
      | nil => rw [nlt_nil] at h2; cases h2
      | cons c z =>
        rw [nlt_cons] at *
        simp only [Bool.or_eq_true, decide_eq_true_eq, Bool.and_eq_true, beq_iff_eq] at *
        rcases h with h | ⟨h, h'⟩
        · rcases h2 with h2 | ⟨h2, h2'⟩
          · exact .inl (u8_trans h h2)
          · subst h2; exact .inl h
        · subst h
          rcases h2 with h2 | ⟨h2, h2'⟩
          · exact .inl h2
          · exact .inr ⟨h2, ih h' h2'⟩

theorem nlt_tri (a b : List UInt8) : nlt a b = true ∨ a = b ∨ nlt b a = true := by
  induction a generalizing b with
  | nil => cases b with
    | nil => exact .inr (.inl rfl)
    | cons => exact .inl rfl
  | cons a x ih => cases b with
    | nil => exact .inr (.inr rfl)
    | cons b y =>
      rw [nlt_cons, nlt_cons]
      rcases u8_tri a b with h | h | h
      · exact .inl (by simp [h])
      · subst h
        rcases ih y with h | h | h
        · exact .inl (by simp [h])
        · exact .inr (.inl (by rw [h]))
        · exact .inr (.inr (by simp [h]))
      · exact .inr (.inr (by simp [h]))

theorem nlt_asymm {a b : List UInt8} (h : nlt a b = true) : nlt b a = false := by
  cases h2 : nlt b a
  · rfl
  · have := nlt_trans h h2; rw [nlt_irrefl] at this; cases this

theorem nlt_ne {a b : List UInt8} (h : nlt a b = true) : a ≠ b := by
  intro e; subst e; rw [nlt_irrefl] at h; cases h

/-- strings.Compare by the same order -/
theorem compare_nlt (a b : List UInt8) : decide (Lib.compareBytes a b < 0) = nlt a b := by
  induction a generalizing b with
  | nil => cases b <;> rfl
  | cons a x ih => cases b with
    | nil => rfl
    | cons b y =>
      rw [nlt_cons, Lib.compareBytes]
      rcases u8_tri a b with h | h | h
      · simp [h]
      · subst h
        simp only [u8_lt_irrefl, if_false]
        rw [ih]
        simp
      · have h1 : ¬ a < b := fun e => u8_lt_irrefl _ (u8_trans e h)
        have h2 : ¬ a = b := fun e => by subst e; exact u8_lt_irrefl _ h
        simp [h, h1, h2]


/-- how often a name is there -/
def cfOf (n : List UInt8) : List Tm → Int
  | [] => 0
  | t :: r => (if t.name = n then t.coef else 0) + cfOf n r

theorem cfOf_append (n : List UInt8) (a b : List Tm) : cfOf n (a ++ b) = cfOf n a + cfOf n b := by
  induction a with
  | nil => simp [cfOf]
  | cons x a ih => simp [cfOf, ih]; omega

theorem cfOf_perm (n : List UInt8) {a b : List Tm} (h : a.Perm b) : cfOf n a = cfOf n b := by
  induction h with
  | nil => rfl
  | cons x _ ih => simp [cfOf, ih]
  | swap x y l => simp [cfOf]; omega
  | trans _ _ h1 h2 => rw [h1, h2]

theorem cfOf_none (n : List UInt8) (l : List Tm) (h : ∀ t ∈ l, t.name ≠ n) : cfOf n l = 0 := by
  induction l with
  | nil => rfl
  | cons x l ih =>
    have h1 : x.name ≠ n := h x (by simp)
    simp [cfOf, h1]
    exact ih fun t ht => h t (by simp [ht])

/-- each name once, in order; no coefficient 0 -/
structure Canon (l : List Tm) : Prop where
  rise : l.Pairwise (fun a b => nlt a.name b.name = true)
  some : ∀ t ∈ l, 0 < t.coef ∧ t.coef < 4294967296

theorem Canon.nil : Canon [] := ⟨List.Pairwise.nil, fun _ h => by cases h⟩
theorem Canon.tail {t : Tm} {l : List Tm} (h : Canon (t :: l)) : Canon l := ⟨(List.pairwise_cons.1 h.rise).2, fun x hx => h.some x (by simp [hx])⟩
theorem Canon.head {t : Tm} {l : List Tm} (h : Canon (t :: l)) : ∀ x ∈ l, nlt t.name x.name = true := (List.pairwise_cons.1 h.rise).1

theorem Canon.cf_head {t : Tm} {l : List Tm} (h : Canon (t :: l)) : cfOf t.name l = 0 :=
  cfOf_none _ _ fun x hx e => by have := h.head x hx; rw [e, nlt_irrefl] at this; cases this

theorem canon_first {x y : Tm} {a b : List Tm} (ha : Canon (x :: a)) (hb : Canon (y :: b)) (h : ∀ n, cfOf n (x :: a) % 4294967296 = cfOf n (y :: b) % 4294967296) : ¬ nlt x.name y.name = true := by
  intro hlt
  have h1 := h x.name
  have h2 : cfOf x.name (y :: b) = 0 := cfOf_none _ _ fun t ht e => by
    have : nlt x.name t.name = true := by
      rcases List.mem_cons.1 ht with rfl | ht
      · exact hlt
      · exact nlt_trans hlt (hb.head t ht)
    rw [e, nlt_irrefl] at this
    cases this
  have h3 := ha.cf_head
  have h4 := ha.some x (by simp)
  rw [h2] at h1
  simp only [cfOf, if_true] at h1
  rw [h3] at h1
  omega

theorem canon_unique : ∀ {a b : List Tm}, Canon a → Canon b → (∀ n, cfOf n a % 4294967296 = cfOf n b % 4294967296) → a = b
  | [], [], _, _, _ => rfl
  | [], y :: b, _, hb, h => by
    have h1 := h y.name
    have h3 := hb.cf_head
    have h4 := hb.some y (by simp)
    simp only [cfOf, if_true] at h1
    rw [h3] at h1
    omega
  | x :: a, [], ha, _, h => by
    have h1 := h x.name
    have h3 := ha.cf_head
    have h4 := ha.some x (by simp)
    simp only [cfOf, if_true] at h1
    rw [h3] at h1
    omega
  | x :: a, y :: b, ha, hb, h => by
    have he : x.name = y.name := by
      rcases nlt_tri x.name y.name with h1 | h1 | h1
      · exact absurd h1 (canon_first ha hb h)
      · exact h1
      · exact absurd h1 (canon_first hb ha fun n => (h n).symm)
    have hc : x.coef = y.coef := by
      have h1 := h x.name
      have h3 := ha.cf_head
      have h3' := hb.cf_head
      have h4 := ha.some x (by simp)
      have h4' := hb.some y (by simp)
      simp only [cfOf, if_true, he] at h1
      rw [← he, h3, he, h3'] at h1
      omega
    have hxy : x = y := by cases x; cases y; simp_all
    subst hxy
    have : a = b := canon_unique ha.tail hb.tail fun n => by
      have h1 := h n
      simp only [cfOf] at h1
      by_cases hn : x.name = n
      · rw [← hn, ha.cf_head, hb.cf_head]
      · rw [if_neg hn] at h1
        omega
    rw [this]

/-! ### gathering -/

/-- a term is put ahead, if its coefficient is not 0 -/
def emit (n : List UInt8) (c : Int) (l : List Tm) : List Tm := if c = 0 then l else ⟨n, c⟩ :: l

/-- names in order are put together: n is under way, with c so far -/
def gat (n : List UInt8) (c : Int) : List Tm → List Tm
  | [] => emit n c []
  | t :: r => if t.name = n then gat n ((c + t.coef) % 4294967296) r else emit n c (gat t.name ((0 + t.coef) % 4294967296) r)

def gather : List Tm → List Tm
  | [] => []
  | t :: r => gat t.name ((0 + t.coef) % 4294967296) r

theorem gather_gat (t : Tm) (r : List Tm) : gather (t :: r) = gat t.name 0 (t :: r) := by simp [gather, gat]
theorem gat_other (n : List UInt8) (c : Int) (t : Tm) (r : List Tm) (h : t.name ≠ n) : gat n c (t :: r) = emit n c (gather (t :: r)) := by rw [gat, if_neg h]; rfl
theorem gat_same (n : List UInt8) (c : Int) (t : Tm) (r : List Tm) (h : t.name = n) : gat n c (t :: r) = gat n ((c + t.coef) % 4294967296) r := by rw [gat, if_pos h]

/-- names in order, each as often as one likes -/
def Sorted (l : List Tm) : Prop := l.Pairwise (fun a b => nlt b.name a.name = false)

theorem cf_emit (m n : List UInt8) (c : Int) (l : List Tm) : cfOf m (emit n c l) = (if n = m then c else 0) + cfOf m l := by
  unfold emit
  split
  · rename_i h; subst h; split <;> simp
  · rfl

theorem cf_gat (m n : List UInt8) (c : Int) (l : List Tm) : cfOf m (gat n c l) % 4294967296 = ((if n = m then c else 0) + cfOf m l) % 4294967296 := by
  induction l generalizing n c with
  | nil => rw [gat, cf_emit]
  | cons t r ih =>
    by_cases h : t.name = n
    · rw [gat_same n c t r h, ih]
      simp only [cfOf, h]
      split
      · omega
      · omega
    · rw [gat, if_neg h, cf_emit]
      have := ih t.name ((0 + t.coef) % 4294967296)
      simp only [cfOf]
      generalize cfOf m (gat t.name ((0 + t.coef) % 4294967296) r) = X at this ⊢
      generalize cfOf m r = Y at this ⊢
      skip
      split at this <;> split <;> rename_i h1 <;> (try simp only [h1] at *) <;> (try simp at *) <;> omega

theorem cf_gather (m : List UInt8) (l : List Tm) : cfOf m (gather l) % 4294967296 = cfOf m l % 4294967296 := by
  cases l with
  | nil => rfl
  | cons t r => rw [gather_gat, cf_gat]; simp

theorem canon_emit {n : List UInt8} {c : Int} {l : List Tm} (hc : 0 ≤ c ∧ c < 4294967296) (h : Canon l) (hn : ∀ t ∈ l, nlt n t.name = true) : Canon (emit n c l) := by
  unfold emit
  split
  · exact h
  · refine ⟨List.pairwise_cons.2 ⟨hn, h.rise⟩, fun t ht => ?_⟩
    rcases List.mem_cons.1 ht with rfl | ht
    · show 0 < c ∧ c < 4294967296
      omega
    · exact h.some t ht

theorem mem_emit {n : List UInt8} {c : Int} {l : List Tm} {t : Tm} (h : t ∈ emit n c l) : t.name = n ∨ t ∈ l := by
  unfold emit at h
  split at h
  · exact .inr h
  · rcases List.mem_cons.1 h with rfl | h
    · exact .inl rfl
    · exact .inr h

theorem mem_gat {n : List UInt8} {c : Int} {l : List Tm} {t : Tm} (h : t ∈ gat n c l) : t.name = n ∨ ∃ x ∈ l, x.name = t.name := by
  induction l generalizing n c with
  | nil => rw [gat] at h; rcases mem_emit h with h | h
           · exact .inl h
           · cases h
  | cons x r ih =>
    rw [gat] at h
    split at h
    · rcases ih h with h | ⟨y, hy, hn⟩
      · exact .inl h
      · exact .inr ⟨y, by simp [hy], hn⟩
    · rcases mem_emit h with h | h
      · exact .inl h
      · rcases ih h with h | ⟨y, hy, hn⟩
        · exact .inr ⟨x, by simp, h.symm⟩
        · exact .inr ⟨y, by simp [hy], hn⟩

theorem canon_gat {n : List UInt8} {c : Int} {l : List Tm} (hc : 0 ≤ c ∧ c < 4294967296) (h : Sorted l) (hn : ∀ t ∈ l, nlt t.name n = false) : Canon (gat n c l) := by
  induction l generalizing n c with
  | nil => rw [gat]; exact canon_emit hc Canon.nil (fun _ h => by cases h)
  | cons x r ih =>
    have hx := List.pairwise_cons.1 h
    rw [gat]
    split
    · exact ih (by omega) hx.2 fun t ht => hn t (by simp [ht])
    · rename_i hne
      have hlt : nlt n x.name = true := by
        rcases nlt_tri n x.name with h1 | h1 | h1
        · exact h1
        · exact absurd h1.symm hne
        · rw [hn x (by simp)] at h1; cases h1
      refine canon_emit hc (ih (by omega) hx.2 hx.1) fun t ht => ?_
      rcases mem_gat ht with h1 | ⟨y, hy, h1⟩
      · rw [h1]; exact hlt
      · rw [← h1]
        rcases nlt_tri x.name y.name with h2 | h2 | h2
        · exact nlt_trans hlt h2
        · rw [← h2]; exact hlt
        · rw [hx.1 y hy] at h2; cases h2

theorem canon_gather {l : List Tm} (h : Sorted l) : Canon (gather l) := by
  cases l with
  | nil => exact Canon.nil
  | cons t r =>
    have hx := List.pairwise_cons.1 h
    exact canon_gat (by omega) hx.2 hx.1

/-! ### the one list -/

/-- by name, for a sort -/
def leT (a b : Tm) : Bool := !nlt b.name a.name

theorem leT_trans (a b c : Tm) (h1 : leT a b = true) (h2 : leT b c = true) : leT a c = true := by
  simp only [leT, Bool.not_eq_true'] at *
  cases h : nlt c.name a.name
  · rfl
  · rcases nlt_tri b.name a.name with h3 | h3 | h3
    · rw [h1] at h3; cases h3
    · rw [← h3, h2] at h; cases h
    · rw [nlt_trans h h3] at h2; cases h2

theorem leT_total (a b : Tm) : (leT a b || leT b a) = true := by
  simp only [leT]
  cases h : nlt b.name a.name
  · rfl
  · rw [nlt_asymm h]; rfl

/-- the one list in order with these coefficients -/
def norm (l : List Tm) : List Tm := gather (l.mergeSort leT)

theorem sorted_mergeSort (l : List Tm) : Sorted (l.mergeSort leT) := by
  have := List.pairwise_mergeSort (le := leT) (fun a b c => leT_trans a b c) (fun a b => leT_total a b) l
  exact this.imp fun h => by simpa [leT] using h

theorem canon_norm (l : List Tm) : Canon (norm l) := canon_gather (sorted_mergeSort l)
theorem cf_norm (n : List UInt8) (l : List Tm) : cfOf n (norm l) % 4294967296 = cfOf n l % 4294967296 := by
  rw [norm, cf_gather, cfOf_perm n (List.mergeSort_perm l leT)]

theorem norm_eq {a l : List Tm} (ha : Canon a) (h : ∀ n, cfOf n a % 4294967296 = cfOf n l % 4294967296) : norm l = a :=
  canon_unique (canon_norm l) ha fun n => by rw [cf_norm, h]

theorem norm_canon {a : List Tm} (ha : Canon a) : norm a = a := norm_eq ha fun _ => rfl

theorem gather_sorted {l l' : List Tm} (hp : l.Perm l') (hs : Sorted l') : gather l' = norm l :=
  (norm_eq (canon_gather hs) fun n => by rw [cf_gather, cfOf_perm n hp]).symm

/-! ### Times -/

/-- each term so many times -/
def timesT (l : List Tm) (n : Int) : List Tm := (l.map fun t => ⟨t.name, t.coef * n % 4294967296⟩).filter fun t => decide (t.coef ≠ 0)

theorem timesT_nil (n : Int) : timesT [] n = [] := rfl
theorem timesT_cons (t : Tm) (l : List Tm) (n : Int) : timesT (t :: l) n = emit t.name (t.coef * n % 4294967296) (timesT l n) := by
  simp only [timesT, List.map_cons, List.filter_cons, emit]
  by_cases h : t.coef * n % 4294967296 = 0 <;> simp [h]
theorem timesT_append (a b : List Tm) (n : Int) : timesT (a ++ b) n = timesT a n ++ timesT b n := by simp [timesT]

theorem mem_timesT {l : List Tm} {n : Int} {t : Tm} (h : t ∈ timesT l n) : 0 < t.coef ∧ t.coef < 4294967296 ∧ ∃ x ∈ l, x.name = t.name := by
  simp only [timesT, List.mem_filter, List.mem_map] at h
  obtain ⟨⟨x, hx, rfl⟩, h⟩ := h
  simp only [ne_eq, decide_not, Bool.not_eq_true', decide_eq_false_iff_not] at *
  refine ⟨by omega, by omega, x, hx, rfl⟩

theorem canon_times {l : List Tm} (h : Canon l) (n : Int) : Canon (timesT l n) := by
  induction l with
  | nil => exact Canon.nil
  | cons t l ih =>
    rw [timesT_cons]
    refine canon_emit (by omega) (ih h.tail) fun x hx => ?_
    obtain ⟨_, _, y, hy, e⟩ := mem_timesT hx
    rw [← e]
    exact h.head y hy

theorem mul_mod32 (a n : Int) : a * n % 4294967296 = (a % 4294967296) * n % 4294967296 := by rw [Int.mul_emod, Int.mul_emod (a % 4294967296) n, Int.emod_emod]

theorem cf_times (m : List UInt8) (l : List Tm) (n : Int) : cfOf m (timesT l n) % 4294967296 = cfOf m l * n % 4294967296 := by
  induction l with
  | nil => simp [timesT_nil, cfOf]
  | cons t l ih =>
    rw [timesT_cons, cf_emit]
    simp only [cfOf]
    rw [Int.add_emod, ih]
    split
    · rw [Int.emod_emod, Int.add_mul, ← Int.add_emod]
    · simp

theorem times_one {l : List Tm} (h : Canon l) : timesT l 1 = l :=
  canon_unique (canon_times h 1) h fun n => by rw [cf_times, Int.mul_one]

theorem times_times (l : List Tm) (h : Canon l) (a b : Int) : timesT (timesT l a) b = timesT l (a * b % 4294967296) :=
  canon_unique (canon_times (canon_times h a) b) (canon_times h _) fun n => by
    rw [cf_times, cf_times, mul_mod32, cf_times, ← mul_mod32, Int.mul_assoc, Int.mul_emod (cfOf n l) (a * b % 4294967296), Int.emod_emod, ← Int.mul_emod]

/-! ### Add -/

def addT (a b : List Tm) : List Tm := norm (a ++ b)

theorem canon_add (a b : List Tm) : Canon (addT a b) := canon_norm _
theorem cf_add (n : List UInt8) (a b : List Tm) : cfOf n (addT a b) % 4294967296 = (cfOf n a + cfOf n b) % 4294967296 := by rw [addT, cf_norm, cfOf_append]

theorem norm_add (a b : List Tm) : norm (a ++ b) = addT (norm a) b := canon_unique (canon_norm _) (canon_add _ _) fun n => by
  rw [cf_norm, cf_add, cfOf_append, Int.add_emod, ← cf_norm n a, ← Int.add_emod]

theorem emit_len (n : List UInt8) (c : Int) (l : List Tm) : (emit n c l).length ≤ l.length + 1 := by
  unfold emit
  split <;> simp

theorem gat_len (n : List UInt8) (c : Int) (l : List Tm) : (gat n c l).length ≤ l.length + 1 := by
  induction l generalizing n c with
  | nil => exact emit_len _ _ _
  | cons t r ih =>
    rw [gat]
    split
    · have := ih n ((c + t.coef) % 4294967296)
      simp
      omega
    · have h1 := ih t.name ((0 + t.coef) % 4294967296)
      have h2 := emit_len n c (gat t.name ((0 + t.coef) % 4294967296) r)
      rw [List.length_cons]
      omega

theorem gather_len (l : List Tm) : (gather l).length ≤ l.length := by
  cases l with
  | nil => exact Nat.le_refl _
  | cons t r => exact gat_len _ _ _

theorem norm_len (l : List Tm) : (norm l).length ≤ l.length := by
  have := gather_len (l.mergeSort leT)
  rw [List.length_mergeSort] at this
  exact this

theorem times_len (l : List Tm) (n : Int) : (timesT l n).length ≤ l.length := by
  induction l with
  | nil => exact Nat.le_refl _
  | cons t l ih =>
    rw [timesT_cons]
    have := emit_len t.name (t.coef * n % 4294967296) (timesT l n)
    simp
    omega

theorem add_nil {a : List Tm} (h : Canon a) : addT a [] = a := by rw [addT, List.append_nil, norm_canon h]
end Go.Proofs.YtijdjljnppkhmabDoor
