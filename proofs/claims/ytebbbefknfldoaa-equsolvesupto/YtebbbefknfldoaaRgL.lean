/- A region that draws its order and whose last operation, a store, waits for all others: the loads among them are taken first under a condition that the store itself ends. -/
import Derived.WalkKit
import Derived.Test.YtebbbefknfldoaaSortT
import Derived.Lib.SmallJoins
import Derived.Maps.OwnSet
import Derived.Maps.OwnOps
import Derived.Deep.DeepAppendWide
import Derived.Laws.OwnMore
import Derived.Test.YtebbbefknfldoaaProg
import Derived.Deep.RegionHeld3

/- Which of some nodes come back to themselves, and an order in which each stands behind those that it leads to: the walk that numbers them, as a function, and that it is right. -/
namespace Go.Proofs.Ytebbbefknfldoaa.Ta
set_option linter.unusedVariables false
set_option linter.unusedSimpArgs false
def big : Nat := 9223372036854775807
structure St where
  met : Nat → Nat
  count : Nat
  opn : List Nat
  order : List Nat
  back : List Nat
def upd (m : Nat → Nat) (i x : Nat) : Nat → Nat := fun j => if j = i then x else m j
def finishF (self : Nat → Bool) (frm : Nat) (s : St) : St :=
  { met := fun j => if j ∈ s.opn.drop frm then big else s.met j, count := s.count, opn := s.opn.take frm, order := s.order ++ s.opn.drop frm, back := s.back ++ (s.opn.drop frm).filter fun j => decide (1 < (s.opn.drop frm).length) || self j }
def beginF (i : Nat) (s : St) : St := { met := upd s.met i (s.count + 1), count := s.count + 1, opn := s.opn ++ [i], order := s.order, back := s.back }
def stepF (v : Nat → St → Nat × St) (a : Nat × St) (t : Nat) : Nat × St := if a.2.met t = 0 then (min a.1 (v t a.2).1, (v t a.2).2) else (min a.1 (a.2.met t), a.2)
def endF (self : Nat → Bool) (own frm : Nat) (r : Nat × St) : Nat × St := if r.1 = own then (own, finishF self frm r.2) else r
def visitF (adj : Nat → List Nat) (self : Nat → Bool) : Nat → Nat → St → Nat × St
  | 0, i, s => (0, s)
  | f + 1, i, s => endF self (s.count + 1) s.opn.length ((adj i).foldl (stepF (visitF adj self f)) (s.count + 1, beginF i s))
inductive Rch (adj : Nat → List Nat) : Nat → Nat → Prop
  | refl (a : Nat) : Rch adj a a
  | head {a b c : Nat} : b ∈ adj a → Rch adj b c → Rch adj a c
theorem Rch.trans {adj : Nat → List Nat} {a b c : Nat} (h : Rch adj a b) (g : Rch adj b c) : Rch adj a c := by
  induction h with
  | refl _ => exact g
  | head h1 _ ih => exact .head h1 (ih g)
theorem Rch.one {adj : Nat → List Nat} {a b : Nat} (h : b ∈ adj a) : Rch adj a b := .head h (.refl _)
def Cyc (adj : Nat → List Nat) (a : Nat) : Prop := ∃ b ∈ adj a, Rch adj b a
theorem Rch.stay {adj : Nat → List Nat} {P : Nat → Prop} (hP : ∀ a, P a → ∀ b ∈ adj a, P b) {a b : Nat} (h : Rch adj a b) : P a → P b := by
  induction h with
  | refl _ => exact id
  | head h1 _ ih => exact fun ha => ih (hP _ ha _ h1)
theorem cyc_of {adj : Nat → List Nat} {a b : Nat} (hne : a ≠ b) (h : Rch adj a b) (g : Rch adj b a) : Cyc adj a := by
  cases h with
  | refl _ => exact absurd rfl hne
  | head h1 h2 => exact ⟨_, h1, h2.trans g⟩
section
variable {adj : Nat → List Nat} {self : Nat → Bool} {n : Nat}
def left (n : Nat) (m : Nat → Nat) : Nat := ((List.range n).filter fun v => m v == 0).length
structure Inv (adj : Nat → List Nat) (n : Nat) (s : St) : Prop where
  num : ∀ v ∈ s.opn, 1 ≤ s.met v ∧ s.met v ≤ s.count
  tri : ∀ v, s.met v = 0 ∨ s.met v = big ∨ v ∈ s.opn
  cnt : s.count + left n s.met ≤ n
  don : ∀ v, s.met v = big → ∀ u ∈ adj v, s.met u = big
  ord : ∀ v, v ∈ s.order ↔ s.met v = big
  bck : ∀ v, v ∈ s.back ↔ s.met v = big ∧ Cyc adj v
  top : ∀ l1 v l2, s.order = l1 ++ v :: l2 → (∀ u ∈ adj v, u ∈ l1) ∨ Cyc adj v
  low : ∀ v, s.met v ≠ 0 → v < n
structure Vis (adj : Nat → List Nat) (n : Nat) (i : Nat) (s : St) (least : Nat) (s' : St) (tail : List Nat) : Prop where
  inv : Inv adj n s'
  opn : s'.opn = s.opn ++ tail
  old : ∀ v, s.met v ≠ 0 → s'.met v = s.met v
  mt : s'.met i ≠ 0
  cnt : s.count < s'.count
  tl : ∀ x ∈ tail, Rch adj x i ∧ Rch adj i x ∧ s.count < s'.met x
  edg : ∀ x ∈ tail, ∀ y ∈ adj x, s'.met y ≠ 0 ∧ (y ∈ s.opn → least ≤ s.met y)
  le : least ≤ s.count + 1
  nil : tail = [] → least = s.count + 1
  hit : tail ≠ [] → ∃ u ∈ s.opn, s.met u = least ∧ Rch adj i u
  lft : left n s'.met < left n s.met
theorem left_le {m m' : Nat → Nat} (h : ∀ v, m v ≠ 0 → m' v ≠ 0) : left n m' ≤ left n m := by
  unfold left
  generalize List.range n = l
  induction l with
  | nil => simp
  | cons a l ih =>
    rw [List.filter_cons, List.filter_cons]
    by_cases h1 : m a = 0
    · by_cases h2 : m' a = 0 <;> simp [h1, h2] <;> omega
    · have h2 := h a h1
      simp [h1, h2]
      exact ih
theorem left_lt {m m' : Nat → Nat} (h : ∀ v, m v ≠ 0 → m' v ≠ 0) {i : Nat} (hi : i < n) (h0 : m i = 0) (h1 : m' i ≠ 0) : left n m' < left n m := by
  unfold left
  have hm : i ∈ List.range n := List.mem_range.2 hi
  generalize List.range n = l at hm
  induction l with
  | nil => cases hm
  | cons a l ih =>
    rw [List.filter_cons, List.filter_cons]
    rcases List.mem_cons.1 hm with rfl | hm
    · have : ((l.filter fun v => m' v == 0)).length ≤ ((l.filter fun v => m v == 0)).length := by
        clear ih hm
        induction l with
        | nil => simp
        | cons a l ih =>
          rw [List.filter_cons, List.filter_cons]
          by_cases h2 : m a = 0
          · by_cases h3 : m' a = 0 <;> simp [h2, h3] <;> omega
          · have h3 := h a h2
            simp [h2, h3]
            exact ih
      simp [h0, h1]
      omega
    · have := ih hm
      by_cases h2 : m a = 0
      · by_cases h3 : m' a = 0 <;> simp [h2, h3] <;> omega
      · have h3 := h a h2
        simp [h2, h3]
        exact this
theorem big_pos : big ≠ 0 := by decide
structure Lp (adj : Nat → List Nat) (n : Nat) (i : Nat) (s : St) (a : Nat × St) (tail : List Nat) (seen : List Nat) : Prop where
  inv : Inv adj n a.2
  opn : a.2.opn = s.opn ++ i :: tail
  old : ∀ v, s.met v ≠ 0 → a.2.met v = s.met v
  own : a.2.met i = s.count + 1
  cnt : s.count < a.2.count
  tl : ∀ x ∈ tail, Rch adj x i ∧ Rch adj i x ∧ s.count + 1 < a.2.met x
  edg : ∀ x ∈ tail, ∀ y ∈ adj x, a.2.met y ≠ 0 ∧ (y ∈ s.opn → a.1 ≤ s.met y)
  sn : ∀ y ∈ seen, a.2.met y ≠ 0 ∧ (y ∈ s.opn → a.1 ≤ s.met y)
  le : a.1 ≤ s.count + 1
  hit : a.1 = s.count + 1 ∨ ∃ u ∈ s.opn, s.met u = a.1 ∧ Rch adj i u
  lft : left n a.2.met < left n s.met
theorem Lp.step {f i : Nat} {s : St} {a : Nat × St} {tail seen : List Nat} {t : Nat} (hn : n < big) (hadj : ∀ v, ∀ u ∈ adj v, u < n) (hS : Inv adj n s) (hi : ∀ v ∈ s.opn, Rch adj v i)
    (h : Lp adj n i s a tail seen) (ht : t ∈ adj i)
    (hv : ∀ t s, Inv adj n s → s.met t = 0 → t < n → (∀ v ∈ s.opn, Rch adj v t) → left n s.met ≤ f → ∃ tl, Vis adj n t s (visitF adj self f t s).1 (visitF adj self f t s).2 tl) (hf : left n s.met ≤ f + 1) :
    ∃ tail', Lp adj n i s (stepF (visitF adj self f) a t) tail' (seen ++ [t]) := by
  have hcb : a.2.count < big := by have := h.inv.cnt; omega
  unfold stepF
  by_cases h0 : a.2.met t = 0
  · rw [if_pos h0]
    have hall : ∀ v ∈ a.2.opn, Rch adj v t := fun v hvv => by
      rw [h.opn] at hvv
      rcases List.mem_append.1 hvv with h1 | h1
      · exact (hi v h1).trans (.one ht)
      · rcases List.mem_cons.1 h1 with rfl | h1
        · exact .one ht
        · exact (h.tl v h1).1.trans (.one ht)
    obtain ⟨tl, V⟩ := hv t a.2 h.inv h0 (hadj i t ht) hall (by have := h.lft; omega)
    generalize (visitF adj self f t a.2).1 = lv at *
    generalize (visitF adj self f t a.2).2 = s2 at *
    have hold : ∀ v, s.met v ≠ 0 → s2.met v = s.met v := fun v hv0 => by rw [V.old v (by rw [h.old v hv0]; exact hv0), h.old v hv0]
    have hin : ∀ y ∈ s.opn, y ∈ a.2.opn := fun y hy => by rw [h.opn]; exact List.mem_append_left _ hy
    have hsm : ∀ y ∈ s.opn, a.2.met y = s.met y := fun y hy => h.old y (by have := (hS.num y hy).1; omega)
    have hback : ∀ u ∈ a.2.opn, Rch adj u i := fun u hu => by
      rw [h.opn] at hu
      rcases List.mem_append.1 hu with h1 | h1
      · exact hi u h1
      · rcases List.mem_cons.1 h1 with rfl | h1
        · exact .refl _
        · exact (h.tl u h1).1
    refine ⟨tail ++ tl, V.inv, ?_, hold, ?_, ?_, ?_, ?_, ?_, ?_, ?_, ?_⟩
    · rw [V.opn, h.opn]; simp
    · rw [V.old i (by rw [h.own]; omega)]; exact h.own
    · show s.count < s2.count; have := h.cnt; have := V.cnt; omega
    · intro x hx
      show Rch adj x i ∧ Rch adj i x ∧ s.count + 1 < s2.met x
      rcases List.mem_append.1 hx with h1 | h1
      · obtain ⟨p1, p2, p3⟩ := h.tl x h1
        exact ⟨p1, p2, by rw [V.old x (by omega)]; exact p3⟩
      · obtain ⟨p1, p2, p3⟩ := V.tl x h1
        obtain ⟨u, hu, _, hr⟩ := V.hit (fun e => by rw [e] at h1; cases h1)
        refine ⟨p1.trans (hr.trans (hback u hu)), (Rch.one ht).trans p2, ?_⟩
        have := (h.inv.num i (by rw [h.opn]; simp)).2
        rw [h.own] at this
        omega
    · intro x hx y hy
      rcases List.mem_append.1 hx with h1 | h1
      · obtain ⟨p1, p2⟩ := h.edg x h1 y hy
        exact ⟨by rw [V.old y p1]; exact p1, fun hyo => Nat.le_trans (Nat.min_le_left _ _) (p2 hyo)⟩
      · obtain ⟨p1, p2⟩ := V.edg x h1 y hy
        exact ⟨p1, fun hyo => Nat.le_trans (Nat.min_le_right _ _) (by have := p2 (hin y hyo); rw [hsm y hyo] at this; exact this)⟩
    · intro y hy
      rcases List.mem_append.1 hy with h1 | h1
      · obtain ⟨p1, p2⟩ := h.sn y h1
        exact ⟨by rw [V.old y p1]; exact p1, fun hyo => Nat.le_trans (Nat.min_le_left _ _) (p2 hyo)⟩
      · rw [List.mem_singleton] at h1
        subst h1
        exact ⟨V.mt, fun hyo => absurd (hsm y hyo ▸ h0) (by have := (hS.num y hyo).1; omega)⟩
    · exact Nat.le_trans (Nat.min_le_left _ _) h.le
    · show min a.1 lv = s.count + 1 ∨ _
      by_cases hlt : lv < a.1
      · rw [Nat.min_eq_right (Nat.le_of_lt hlt)]
        have htl : tl ≠ [] := fun e => by have := V.nil e; have := h.le; have := h.cnt; omega
        obtain ⟨u, hu, hm, hr⟩ := V.hit htl
        right
        rw [h.opn] at hu
        rcases List.mem_append.1 hu with h1 | h1
        · exact ⟨u, h1, by rw [← hsm u h1]; exact hm, (Rch.one ht).trans hr⟩
        · exfalso
          have := h.le
          rcases List.mem_cons.1 h1 with rfl | h1
          · rw [h.own] at hm; omega
          · have := (h.tl u h1).2.2; omega
      · rw [Nat.min_eq_left (by omega)]
        exact h.hit
    · show left n s2.met < _; have := V.lft; have := h.lft; omega
  · rw [if_neg h0]
    have hm : ∀ y ∈ s.opn, a.2.met y = s.met y := fun y hy => h.old y (by have := (hS.num y hy).1; omega)
    refine ⟨tail, h.inv, h.opn, h.old, h.own, h.cnt, h.tl, ?_, ?_, ?_, ?_, h.lft⟩
    · intro x hx y hy
      obtain ⟨p1, p2⟩ := h.edg x hx y hy
      exact ⟨p1, fun hyo => Nat.le_trans (Nat.min_le_left _ _) (p2 hyo)⟩
    · intro y hy
      rcases List.mem_append.1 hy with h1 | h1
      · obtain ⟨p1, p2⟩ := h.sn y h1
        exact ⟨p1, fun hyo => Nat.le_trans (Nat.min_le_left _ _) (p2 hyo)⟩
      · rw [List.mem_singleton] at h1
        subst h1
        exact ⟨h0, fun hyo => Nat.le_trans (Nat.min_le_right _ _) (by rw [hm y hyo]; exact Nat.le_refl _)⟩
    · exact Nat.le_trans (Nat.min_le_left _ _) h.le
    · show min a.1 (a.2.met t) = s.count + 1 ∨ _
      by_cases hlt : a.2.met t < a.1
      · rw [Nat.min_eq_right (Nat.le_of_lt hlt)]
        right
        have hl := h.le
        rcases h.inv.tri t with h1 | h1 | h1
        · exact absurd h1 h0
        · have := h.inv.cnt; have := h.cnt; omega
        · rw [h.opn] at h1
          rcases List.mem_append.1 h1 with h1 | h1
          · exact ⟨t, h1, (hm t h1).symm, .one ht⟩
          · exfalso
            rcases List.mem_cons.1 h1 with rfl | h1
            · rw [h.own] at hlt; omega
            · have := (h.tl t h1).2.2; omega
      · rw [Nat.min_eq_left (by omega)]
        exact h.hit
theorem Lp.all {f i : Nat} {s : St} (hn : n < big) (hadj : ∀ v, ∀ u ∈ adj v, u < n) (hS : Inv adj n s) (hi : ∀ v ∈ s.opn, Rch adj v i)
    (hv : ∀ t s, Inv adj n s → s.met t = 0 → t < n → (∀ v ∈ s.opn, Rch adj v t) → left n s.met ≤ f → ∃ tl, Vis adj n t s (visitF adj self f t s).1 (visitF adj self f t s).2 tl) (hf : left n s.met ≤ f + 1) :
    ∀ (l : List Nat) (a : Nat × St) (tail seen : List Nat), (∀ t ∈ l, t ∈ adj i) → Lp adj n i s a tail seen → ∃ tail', Lp adj n i s (l.foldl (stepF (visitF adj self f)) a) tail' (seen ++ l)
  | [], a, tail, seen, _, h => ⟨tail, by simpa using h⟩
  | t :: l, a, tail, seen, hl, h => by
    obtain ⟨t2, h2⟩ := h.step hn hadj hS hi (hl t (by simp)) hv hf
    obtain ⟨t3, h3⟩ := Lp.all hn hadj hS hi hv hf l _ t2 _ (fun x hx => hl x (by simp [hx])) h2
    exact ⟨t3, by simpa using h3⟩
theorem Lp.start {i : Nat} {s : St} (hn : n < big) (hS : Inv adj n s) (h0 : s.met i = 0) (hin : i < n) : Lp adj n i s (s.count + 1, beginF i s) [] [] := by
  have hu : ∀ v, s.met v ≠ 0 → (beginF i s).met v = s.met v := fun v hv => by
    show upd s.met i (s.count + 1) v = _
    unfold upd
    rw [if_neg (fun e => hv (by rw [e]; exact h0))]
  have hown : (beginF i s).met i = s.count + 1 := by show upd s.met i (s.count + 1) i = _; unfold upd; rw [if_pos rfl]
  have hlt : left n (beginF i s).met < left n s.met := left_lt (fun v hv => by rw [hu v hv]; exact hv) hin h0 (by rw [hown]; omega)
  have hcb : s.count + 1 < big := by have := hS.cnt; omega
  have hbig : ∀ v, (beginF i s).met v = big ↔ s.met v = big := fun v => by
    by_cases hv : v = i
    · subst hv; rw [hown, h0]; exact ⟨fun e => by omega, fun e => absurd e.symm big_pos⟩
    · show upd s.met i (s.count + 1) v = _ ↔ _
      unfold upd
      rw [if_neg hv]
  refine ⟨⟨?_, ?_, ?_, ?_, ?_, ?_, hS.top, ?_⟩, rfl, hu, hown, Nat.lt_succ_self _, fun x hx => (by cases hx), fun x hx => (by cases hx), fun x hx => (by cases hx), Nat.le_refl _, .inl rfl, hlt⟩
  · intro v hv
    rcases List.mem_append.1 hv with h1 | h1
    · have := hS.num v h1
      rw [hu v (by omega)]
      exact ⟨this.1, Nat.le_succ_of_le this.2⟩
    · rw [List.mem_singleton] at h1
      subst h1
      rw [hown]
      exact ⟨by omega, Nat.le_refl _⟩
  · intro v
    by_cases hv : v = i
    · subst hv; right; right; show v ∈ s.opn ++ [v]; simp
    · have e : (beginF i s).met v = s.met v := by show upd s.met i (s.count + 1) v = _; unfold upd; rw [if_neg hv]
      rw [e]
      rcases hS.tri v with h | h | h
      · exact .inl h
      · exact .inr (.inl h)
      · exact .inr (.inr (List.mem_append_left _ h))
  · have := hS.cnt
    show s.count + 1 + left n (beginF i s).met ≤ n
    omega
  · intro v hv u hu2
    exact (hbig u).2 (hS.don v ((hbig v).1 hv) u hu2)
  · intro v
    rw [hbig]
    exact hS.ord v
  · intro v
    rw [hbig]
    exact hS.bck v
  · intro v hv
    by_cases e : v = i
    · rw [e]; exact hin
    · refine hS.low v ?_
      have e2 : (beginF i s).met v = s.met v := by show upd s.met i (s.count + 1) v = _; unfold upd; rw [if_neg e]
      rw [← e2]
      exact hv
theorem Lp.fin {i : Nat} {s : St} {a : Nat × St} {tail : List Nat} (hn : n < big) (hself : ∀ v, self v = true ↔ v ∈ adj v) (hS : Inv adj n s) (h : Lp adj n i s a tail (adj i)) (hl : a.1 = s.count + 1) : Vis adj n i s (s.count + 1) (finishF self s.opn.length a.2) [] := by
  have hr : a.2.opn.drop s.opn.length = i :: tail := by rw [h.opn]; simp
  have ht : a.2.opn.take s.opn.length = s.opn := by rw [h.opn]; simp
  have hcb : a.2.count < big := by have := h.inv.cnt; omega
  -- the ring and what is done lead nowhere else
  have hold : ∀ y ∈ s.opn, s.met y ≤ s.count := fun y hy => (hS.num y hy).2
  have hedge : ∀ x ∈ i :: tail, ∀ y ∈ adj x, a.2.met y = big ∨ y ∈ i :: tail := fun x hx y hy => by
    have hh : a.2.met y ≠ 0 ∧ (y ∈ s.opn → a.1 ≤ s.met y) := by
      rcases List.mem_cons.1 hx with rfl | hx
      · exact h.sn y hy
      · exact h.edg x hx y hy
    rcases h.inv.tri y with h1 | h1 | h1
    · exact absurd h1 hh.1
    · exact .inl h1
    · rw [h.opn] at h1
      rcases List.mem_append.1 h1 with h2 | h2
      · have := hh.2 h2; have := hold y h2; omega
      · exact .inr h2
  have hnb : ∀ x ∈ i :: tail, a.2.met x ≠ big := fun x hx => by
    have := (h.inv.num x (by rw [h.opn]; exact List.mem_append_right _ hx)).2
    omega
  have hmet : ∀ j, (finishF self s.opn.length a.2).met j = if j ∈ i :: tail then big else a.2.met j := fun j => by
    show (if j ∈ a.2.opn.drop s.opn.length then big else a.2.met j) = _
    rw [hr]
  have hbig : ∀ v, (finishF self s.opn.length a.2).met v = big ↔ v ∈ i :: tail ∨ a.2.met v = big := fun v => by
    rw [hmet]
    by_cases hv : v ∈ i :: tail
    · simp [hv]
    · rw [if_neg hv]
      exact ⟨.inr, fun h => h.resolve_left hv⟩
  have hdon : ∀ v, (finishF self s.opn.length a.2).met v = big → ∀ u ∈ adj v, (finishF self s.opn.length a.2).met u = big := fun v hv u hu => by
    rcases (hbig v).1 hv with h1 | h1
    · rcases hedge v h1 u hu with h2 | h2
      · exact (hbig u).2 (.inr h2)
      · exact (hbig u).2 (.inl h2)
    · exact (hbig u).2 (.inr (h.inv.don v h1 u hu))
  have hstay : ∀ x y, a.2.met x = big → Rch adj x y → a.2.met y = big := fun x y hx hxy => hxy.stay (P := fun z => a.2.met z = big) h.inv.don hx
  have hcyc : ∀ v ∈ i :: tail, (decide (1 < (i :: tail).length) || self v) = true ↔ Cyc adj v := fun v hv => by
    have hri : Rch adj v i ∧ Rch adj i v := by
      rcases List.mem_cons.1 hv with rfl | hv
      · exact ⟨.refl _, .refl _⟩
      · exact ⟨(h.tl v hv).1, (h.tl v hv).2.1⟩
    constructor
    · intro hb
      rcases Bool.or_eq_true_iff.1 hb with h1 | h1
      · have h2 : 1 < (i :: tail).length := of_decide_eq_true h1
        by_cases hvi : v = i
        · subst hvi
          obtain ⟨x, hx⟩ : ∃ x, x ∈ tail := by
            cases tail with
            | nil => simp at h2
            | cons x l => exact ⟨x, by simp⟩
          obtain ⟨p1, p2, p3⟩ := h.tl x hx
          exact cyc_of (fun e => by rw [← e, h.own] at p3; omega) p2 p1
        · exact cyc_of hvi hri.1 hri.2
      · exact ⟨v, (hself v).1 h1, .refl _⟩
    · rintro ⟨u, hu, hr2⟩
      rw [Bool.or_eq_true_iff]
      by_cases h2 : 1 < (i :: tail).length
      · exact .inl (decide_eq_true h2)
      · right
        have ht0 : tail = [] := by
          cases tail with
          | nil => rfl
          | cons x l => simp at h2
        subst ht0
        have hvi : v = i := by simpa using hv
        subst hvi
        rcases hedge v (by simp) u hu with h3 | h3
        · exact absurd (hstay u v h3 hr2) (hnb v (by simp))
        · have : u = v := by simpa using h3
          rw [this] at hu
          exact (hself v).2 hu
  have hord : (finishF self s.opn.length a.2).order = a.2.order ++ (i :: tail) := by show a.2.order ++ a.2.opn.drop s.opn.length = _; rw [hr]
  have hback : (finishF self s.opn.length a.2).back = a.2.back ++ (i :: tail).filter fun j => decide (1 < (i :: tail).length) || self j := by
    show a.2.back ++ (a.2.opn.drop s.opn.length).filter _ = _
    rw [hr]
  have hopn : (finishF self s.opn.length a.2).opn = s.opn := ht
  have hoff : ∀ v ∈ s.opn, v ∉ i :: tail := fun v hv hvt => by
    have h1 := hold v hv
    have h2 := h.old v (by have := (hS.num v hv).1; omega)
    rcases List.mem_cons.1 hvt with rfl | hvt
    · rw [h.own] at h2; omega
    · have := (h.tl v hvt).2.2; omega
  have hkeep : ∀ v, s.met v ≠ 0 → (finishF self s.opn.length a.2).met v = s.met v := fun v hv => by
    rw [hmet, if_neg (fun hvt => ?_)]
    · exact h.old v hv
    · have h2 := h.old v hv
      have hb : s.met v ≤ s.count ∨ s.met v = big := by
        rcases hS.tri v with h1 | h1 | h1
        · exact absurd h1 hv
        · exact .inr h1
        · exact .inl (hold v h1)
      rcases List.mem_cons.1 hvt with rfl | hvt2
      · rw [h.own] at h2; have := h.inv.cnt; have := h.cnt; omega
      · have := (h.tl v hvt2).2.2
        have := hnb v hvt
        omega
  have hnz : ∀ v, a.2.met v ≠ 0 → (finishF self s.opn.length a.2).met v ≠ 0 := fun v hv => by
    rw [hmet]
    split
    · exact big_pos
    · exact hv
  refine ⟨⟨?_, ?_, ?_, hdon, ?_, ?_, ?_, ?_⟩, by rw [hopn]; simp, hkeep, ?_, h.cnt, fun x hx => (by cases hx), fun x hx => (by cases hx), Nat.le_refl _, fun _ => rfl, fun e => absurd rfl e, Nat.lt_of_le_of_lt (left_le hnz) h.lft⟩
  · rw [hopn]
    intro v hv
    have := hS.num v hv
    rw [hkeep v (by omega)]
    exact ⟨this.1, Nat.le_of_lt (Nat.lt_of_le_of_lt this.2 h.cnt)⟩
  · intro v
    rw [hopn]
    by_cases hv : v ∈ i :: tail
    · exact .inr (.inl ((hbig v).2 (.inl hv)))
    · rcases h.inv.tri v with h1 | h1 | h1
      · left; rw [hmet, if_neg hv]; exact h1
      · exact .inr (.inl ((hbig v).2 (.inr h1)))
      · rw [h.opn] at h1
        rcases List.mem_append.1 h1 with h1 | h1
        · exact .inr (.inr h1)
        · exact absurd h1 hv
  · have h1 := h.inv.cnt
    have h2 := left_le (n := n) hnz
    show a.2.count + _ ≤ n
    omega
  · intro v
    rw [hord, List.mem_append, hbig, h.inv.ord]
    exact ⟨Or.symm, Or.symm⟩
  · intro v
    rw [hback, List.mem_append, hbig, h.inv.bck, List.mem_filter]
    constructor
    · rintro (⟨h1, h2⟩ | ⟨h1, h2⟩)
      · exact ⟨.inr h1, h2⟩
      · exact ⟨.inl h1, (hcyc v h1).1 h2⟩
    · rintro ⟨h1 | h1, h2⟩
      · exact .inr ⟨h1, (hcyc v h1).2 h2⟩
      · exact .inl ⟨h1, h2⟩
  · intro l1 v l2 he
    rw [hord] at he
    rcases List.append_eq_append_iff.1 he with ⟨m, h1, h2⟩ | ⟨m, h1, h2⟩
    · -- the node is one of the ring
      have hvr : v ∈ i :: tail := by rw [h2]; simp
      by_cases hc : Cyc adj v
      · exact .inr hc
      · left
        intro u hu
        rcases hedge v hvr u hu with h3 | h3
        · rw [h1]
          exact List.mem_append_left _ ((h.inv.ord u).2 h3)
        · exfalso
          apply hc
          have hb : (decide (1 < (i :: tail).length) || self v) = true := by
            by_cases huv : u = v
            · rw [huv] at hu
              rw [(hself v).2 hu]
              simp
            · have : 1 < (i :: tail).length := by
                cases tail with
                | nil =>
                  have e1 : u = i := by simpa using h3
                  have e2 : v = i := by simpa using hvr
                  exact absurd (e1.trans e2.symm) huv
                | cons x l => simp
              rw [decide_eq_true this]
              rfl
          exact (hcyc v hvr).1 hb
    · cases m with
      | nil =>
        rw [List.nil_append] at h2
        rw [List.append_nil] at h1
        have hvr : v ∈ i :: tail := by rw [← h2]; simp
        by_cases hc : Cyc adj v
        · exact .inr hc
        · left
          intro u hu
          rcases hedge v hvr u hu with h3 | h3
          · rw [← h1]
            exact (h.inv.ord u).2 h3
          · exfalso
            apply hc
            have hb : (decide (1 < (i :: tail).length) || self v) = true := by
              by_cases huv : u = v
              · rw [huv] at hu
                rw [(hself v).2 hu]
                simp
              · have : 1 < (i :: tail).length := by
                  cases tail with
                  | nil =>
                    have e1 : u = i := by simpa using h3
                    have e2 : v = i := by simpa using hvr
                    exact absurd (e1.trans e2.symm) huv
                  | cons x l => simp
                rw [decide_eq_true this]
                rfl
            exact (hcyc v hvr).1 hb
      | cons y m =>
        rw [List.cons_append] at h2
        injection h2 with e1 e2
        subst e1
        exact h.inv.top l1 v m h1
  · intro v hv
    by_cases hvt : v ∈ i :: tail
    · exact h.inv.low v (by have := (h.inv.num v (by rw [h.opn]; exact List.mem_append_right _ hvt)).1; omega)
    · rw [hmet, if_neg hvt] at hv
      exact h.inv.low v hv
  · rw [hmet, if_pos (by simp)]
    exact big_pos
theorem visit_is (hn : n < big) (hadj : ∀ v, ∀ u ∈ adj v, u < n) (hself : ∀ v, self v = true ↔ v ∈ adj v) : ∀ (f i : Nat) (s : St), Inv adj n s → s.met i = 0 → i < n → (∀ v ∈ s.opn, Rch adj v i) → left n s.met ≤ f → ∃ tail, Vis adj n i s (visitF adj self f i s).1 (visitF adj self f i s).2 tail
  | 0, i, s, hS, h0, hin, hi, hf => by
    have := left_lt (n := n) (m := s.met) (m' := upd s.met i 1) (fun v hv => by unfold upd; split <;> omega) hin h0 (by unfold upd; rw [if_pos rfl]; decide)
    omega
  | f + 1, i, s, hS, h0, hin, hi, hf => by
    obtain ⟨tail, h⟩ := Lp.all (f := f) (self := self) hn hadj hS hi (visit_is hn hadj hself f) hf (adj i) _ [] [] (fun t ht => ht) (Lp.start hn hS h0 hin)
    rw [List.nil_append] at h
    show ∃ tail, Vis adj n i s (endF self (s.count + 1) s.opn.length _).1 (endF self (s.count + 1) s.opn.length _).2 tail
    generalize (adj i).foldl (stepF (visitF adj self f)) (s.count + 1, beginF i s) = a at h
    unfold endF
    by_cases hl : a.1 = s.count + 1
    · rw [if_pos hl]
      exact ⟨[], h.fin hn hself hS hl⟩
    · rw [if_neg hl]
      refine ⟨i :: tail, h.inv, h.opn, h.old, by rw [h.own]; omega, h.cnt, ?_, ?_, h.le, (fun e => by cases e), fun _ => ?_, h.lft⟩
      · intro x hx
        rcases List.mem_cons.1 hx with rfl | hx
        · exact ⟨.refl _, .refl _, by rw [h.own]; omega⟩
        · obtain ⟨p1, p2, p3⟩ := h.tl x hx
          exact ⟨p1, p2, by omega⟩
      · intro x hx y hy
        rcases List.mem_cons.1 hx with rfl | hx
        · exact h.sn y hy
        · exact h.edg x hx y hy
      · rcases h.hit with h1 | h1
        · exact absurd h1 hl
        · exact h1
def allF (adj : Nat → List Nat) (self : Nat → Bool) (n : Nat) : List Nat → St → St
  | [], s => s
  | i :: l, s => allF adj self n l (if s.met i = 0 then (visitF adj self n i s).2 else s)
def zeroS : St := ⟨fun _ => 0, 0, [], [], []⟩
def walkF (adj : Nat → List Nat) (self : Nat → Bool) (n : Nat) : St := allF adj self n (List.range n) zeroS
theorem inv_zero : Inv adj n zeroS := by
  refine ⟨fun v hv => (by cases hv), fun v => .inl rfl, ?_, fun v hv => absurd hv.symm big_pos, fun v => ⟨fun h => (by cases h), fun h => absurd h.symm big_pos⟩, fun v => ⟨fun h => (by cases h), fun h => absurd h.1.symm big_pos⟩, fun l1 v l2 h => ?_, fun v h => absurd rfl h⟩
  · show 0 + left n _ ≤ n
    unfold left
    have := List.length_filter_le (fun v => (zeroS.met v == 0)) (List.range n)
    rw [List.length_range] at this
    omega
  · exact absurd h (by show [] ≠ _; simp)
theorem all_is (hn : n < big) (hadj : ∀ v, ∀ u ∈ adj v, u < n) (hself : ∀ v, self v = true ↔ v ∈ adj v) : ∀ (l : List Nat) (s : St), (∀ i ∈ l, i < n) → Inv adj n s → s.opn = [] → Inv adj n (allF adj self n l s) ∧ (allF adj self n l s).opn = [] ∧ (∀ v, s.met v ≠ 0 → (allF adj self n l s).met v = s.met v) ∧ ∀ i ∈ l, (allF adj self n l s).met i ≠ 0
  | [], s, _, hS, ho => ⟨hS, ho, fun _ _ => rfl, fun i hi => by cases hi⟩
  | i :: l, s, hl, hS, ho => by
    rw [allF]
    by_cases h0 : s.met i = 0
    · rw [if_pos h0]
      obtain ⟨tail, V⟩ := visit_is hn hadj hself n i s hS h0 (hl i (by simp)) (fun v hv => by rw [ho] at hv; cases hv) (by have := hS.cnt; omega)
      have ht : tail = [] := by
        cases tail with
        | nil => rfl
        | cons x l2 =>
          obtain ⟨u, hu, _⟩ := V.hit (by simp)
          rw [ho] at hu
          cases hu
      obtain ⟨r1, r2, r3, r4⟩ := all_is hn hadj hself l _ (fun j hj => hl j (by simp [hj])) V.inv (by rw [V.opn, ho, ht]; rfl)
      refine ⟨r1, r2, fun v hv => ?_, fun j hj => ?_⟩
      · rw [r3 v (by rw [V.old v hv]; exact hv), V.old v hv]
      · rcases List.mem_cons.1 hj with rfl | hj
        · rw [r3 j V.mt]; exact V.mt
        · exact r4 j hj
    · rw [if_neg h0]
      obtain ⟨r1, r2, r3, r4⟩ := all_is hn hadj hself l s (fun j hj => hl j (by simp [hj])) hS ho
      refine ⟨r1, r2, r3, fun j hj => ?_⟩
      rcases List.mem_cons.1 hj with rfl | hj
      · rw [r3 j h0]; exact h0
      · exact r4 j hj
theorem walk_is (hn : n < big) (hadj : ∀ v, ∀ u ∈ adj v, u < n) (hself : ∀ v, self v = true ↔ v ∈ adj v) : (∀ v, v ∈ (walkF adj self n).order ↔ v < n) ∧ (∀ v, v ∈ (walkF adj self n).back ↔ v < n ∧ Cyc adj v) ∧ ∀ l1 v l2, (walkF adj self n).order = l1 ++ v :: l2 → (∀ u ∈ adj v, u ∈ l1) ∨ Cyc adj v := by
  obtain ⟨h1, h2, h3, h4⟩ := all_is (self := self) hn hadj hself (List.range n) zeroS (fun i hi => List.mem_range.1 hi) inv_zero rfl
  have hb : ∀ v, (walkF adj self n).met v = big ↔ v < n := fun v => by
    constructor
    · intro h
      exact h1.low v (by show (walkF adj self n).met v ≠ 0; rw [h]; exact big_pos)
    · intro h
      rcases h1.tri v with h5 | h5 | h5
      · exact absurd h5 (h4 v (List.mem_range.2 h))
      · exact h5
      · rw [h2] at h5; cases h5
  exact ⟨fun v => (h1.ord v).trans (hb v), fun v => (h1.bck v).trans (and_congr_left fun _ => hb v), h1.top⟩
end
end Go.Proofs.Ytebbbefknfldoaa.Ta
/- equ: does an equ lead to itself? -/
namespace Go.Proofs.Ytebbbefknfldoaa
open Go.ChangeShapes Go.WideShapes Go.ChangeAt Go.RowKit
set_option linter.unusedVariables false
set_option linter.unusedSimpArgs false
set_option maxRecDepth 100000
theorem str_beq (s t : List UInt8) : ((str s).toList == (str t).toList) = decide (s = t) := by
  rw [str_toList, str_toList]
  by_cases h : s = t
  · subst h; simp
  · rw [decide_eq_false h]
    exact beq_eq_false_iff_ne.2 h
theorem lead1 (s nm : List UInt8) (k : Int) (b : Nat) (w : World) (hb : b < w.heap.size) (hc : w.cell? ⟨b, 0, none⟩ = some (.string (str nm))) : Calls Try.prog 55 #[.agg #[.string (str s), .int .u32 k], .pointer (some ⟨b, 0, none⟩)] w fun e w' => e = .returned (.bool (decide (s = nm))) ∧ Below w.heap.size w w' := by
  have hB := below_alloc w (.cells #[.string (str s), .int .u32 k] 49)
  have hc2 : (w.alloc (.cells #[.string (str s), .int .u32 k] 49)).cell? ⟨b, 0, none⟩ = some (.string (str nm)) := (hB.cell (p := ⟨b, 0, none⟩) hb).trans hc
  have hB' := Hid.intro hB
  have hne : ¬ b = w.heap.size := by omega
  have hbe := str_beq s nm
  go_enter Try.func55, Try.ntmps55
  go_wp2
  all_goals first | omega | skip
  go_ret
  exact ⟨by first | rw [hbe] | rfl | (simp [hbe]), hB'.out⟩
def inT (nm : List UInt8) (ts : List Tm) : Bool := ts.any fun t => decide (t.name = nm)
theorem inT_take (nm : List UInt8) (l : List Tm) (i : Nat) (x : Tm) (hx : l[i]? = some x) : inT nm (l.take (i + 1)) = (inT nm (l.take i) || decide (x.name = nm)) := by
  unfold inT
  rw [List.take_add_one, hx]
  simp
set_option maxHeartbeats 4000000 in
theorem lead2 (nm : List UInt8) (b : Nat) (a : Option Addr) (c : Nat) (l : List Tm) (hl : l.length ≤ 4400000) (w : World) (hb : b < w.heap.size) (hc : w.cell? ⟨b, 0, none⟩ = some (.string (str nm))) (hI : TmLies w a l) : Calls Try.prog 68 #[.slice a l.length c, .func (.func 55) #[] #[.pointer (some ⟨b, 0, none⟩)]] w fun e w' => (∃ j : Int, e = .returned (.int .i64 j) ∧ decide (0 ≤ j) = inT nm l) ∧ Below w.heap.size w w' := by
  have hget : Hid (∀ wr i, Below w.heap.size w wr → i < l.length → ∃ x, l[i]? = some x ∧ ∃ g o, a = some ⟨g, o, none⟩ ∧ TmAt wr g (o + i * 2) x) := fun wr i hb i1 => by
    obtain ⟨x, hx⟩ : ∃ x, l[i]? = some x := ⟨_, List.getElem?_eq_getElem i1⟩
    refine ⟨x, hx, ?_⟩
    rcases hI with rfl | ⟨g, o, ha, hg, hI⟩
    · cases hx
    · exact ⟨g, o, ha, (hI i x hx).below hb hg⟩
  have h55 := Hid.intro (fun (wr : World) (s : List UInt8) (k : Int) (hB : Below w.heap.size w wr) => lead1 s nm k b wr (Nat.lt_of_lt_of_le hb hB.size) ((hB.cell (p := ⟨b, 0, none⟩) hb).trans hc))
  have hnx : Hid (∀ (i : Nat) (x : Tm), l[i]? = some x → inT nm (l.take i) = false → decide (x.name = nm) = false → inT nm (l.take (i + 1)) = false) := fun i x hx h1 h2 => by rw [inT_take nm l i x hx, h1, h2]; rfl
  have hyes : Hid (∀ (i : Nat) (x : Tm), l[i]? = some x → decide (x.name = nm) = true → inT nm l = true) := fun i x hx h1 => List.any_eq_true.2 ⟨x, List.mem_of_getElem? hx, h1⟩
  have hno : Hid (∀ i, i = l.length → inT nm (l.take i) = false → inT nm l = false) := fun i hi h1 => by rw [hi, List.take_length] at h1; exact h1
  generalize hA : inT nm l = AA at *
  obtain ⟨n0, hn0⟩ : ∃ n0, n0 = l.length := ⟨_, rfl⟩
  rw [← hn0] at hl hget hno ⊢
  clear hn0 hI hA hc
  go_enter Try.func68, Try.ntmps68
  go_wp2
  all_goals first | omega | skip
  go_loopw [8] (fun v8 wr => ∃ (i : Nat), i ≤ n0 ∧ v8 = .int .i64 (i : Int) ∧ Hid (Below w.heap.size w wr) ∧ Hid (inT nm (l.take i) = false)) (fun v8 _ => n0 - (intOf v8).toNat)
  case atStart => exact ⟨0, by omega, rfl, Below.refl _ _, rfl⟩
  case round =>
    obtain ⟨i, hi, rfl, hb, hn⟩ := hrel
    by_cases hin : i < n0
    · obtain ⟨x, hx, g, o, ha, ⟨d0, d1⟩⟩ := hget.out wr i hb.out hin
      have hx2 := Hid.intro hx
      have hm := Hid.intro (h55.out wr x.name x.coef hb.out)
      clear hx
      subst ha
      cases hq : decide (x.name = nm)
      · rw [hq] at hm
        have hnn := Hid.intro (hnx.out i x hx2.out hn.out hq)
        clear hq
        go_wp2_with (go_at_call 55; (with_reducible refine (hm.out).mono ?_); rintro e w2 ⟨rfl, hb2⟩; have hb3 := Hid.intro (hb.out.trans (hb2.mono hb.out.size)); clear hb2)
        all_goals first | omega | skip
        go_roundw
        case rel => exact ⟨i + 1, by omega, by go_num, hb3, hnn⟩
        case measure => simp [intOf]; omega
      · rw [hq] at hm
        have hyy := Hid.intro (hyes.out i x hx2.out hq)
        clear hq
        go_wp2_with (go_at_call 55; (with_reducible refine (hm.out).mono ?_); rintro e w2 ⟨rfl, hb2⟩; have hb3 := Hid.intro (hb.out.trans (hb2.mono hb.out.size)); clear hb2)
        all_goals first | omega | skip
        go_ret
        exact ⟨⟨_, rfl, by rw [hyy.out]; simp⟩, hb3.out⟩
    · obtain rfl : i = n0 := by omega
      have hnn := Hid.intro (hno.out i rfl hn.out)
      go_wp2_with fail
      all_goals first | omega | skip
      go_ret
      exact ⟨⟨_, rfl, by rw [hnn.out]; simp⟩, hb.out⟩
set_option maxHeartbeats 4000000 in
theorem lead3 (nm : List UInt8) (b : Nat) (a : Option Addr) (c : Nat) (l : List Tm) (hl : l.length ≤ 4400000) (w : World) (hb : b < w.heap.size) (hc : w.cell? ⟨b, 0, none⟩ = some (.string (str nm))) (hI : TmLies w a l) : Calls Try.prog 54 #[.slice a l.length c, .func (.func 55) #[] #[.pointer (some ⟨b, 0, none⟩)]] w fun e w' => e = .returned (.bool (inT nm l)) ∧ Below w.heap.size w w' := by
  have hh := Hid.intro (lead2 nm b a c l hl w hb hc hI)
  generalize inT nm l = AA at *
  generalize l.length = n0 at *
  clear hI hc
  go_enter Try.func54, Try.ntmps54
  go_wp2_with (go_at_call 68; (with_reducible refine (hh.out).mono ?_); rintro e w2 ⟨⟨j, rfl, hj⟩, hb2⟩; replace hj := Hid.intro hj; replace hb2 := Hid.intro hb2)
  all_goals first | omega | skip
  go_ret
  refine ⟨?_, hb2.out⟩
  rw [← hj.out]
  rfl
set_option maxHeartbeats 4000000 in
theorem leads_any (nm : List UInt8) (k : Int) (a : Option Addr) (c : Nat) (l : List Tm) (hl : l.length ≤ 4400000) (w : World) (hI : TmLies w a l) : Calls Try.prog 43 #[.agg #[.string (str nm), .slice a l.length c, .int .u32 k]] w fun e w' => e = .returned (.bool (inT nm l)) ∧ Below w.heap.size w w' := by
  have hB := below_alloc w (.cells #[.string (str nm), .slice a l.length c, .int .u32 k] 31)
  have h0 := heap_alloc_new w (.cells #[.string (str nm), .slice a l.length c, .int .u32 k] 31)
  have hc0 : (w.alloc (.cells #[.string (str nm), .slice a l.length c, .int .u32 k] 31)).cell? ⟨w.heap.size, 0, none⟩ = some (.string (str nm)) := (Joins.cell_of_block h0 0).trans rfl
  have hh := Hid.intro (lead3 nm w.heap.size a c l hl _ (by simp) hc0 (hI.below hB (Nat.le_refl _)))
  have hB' := Hid.intro hB
  generalize inT nm l = AA at *
  generalize l.length = n0 at *
  clear hI hc0 h0 hB
  go_enter Try.func43, Try.ntmps43
  go_wp2_with (go_at_call 54; (with_reducible refine (hh.out).mono ?_); rintro e w2 ⟨rfl, hb2⟩; replace hb2 := Hid.intro hb2)
  all_goals first | omega | skip
  go_ret
  exact ⟨rfl, hB'.out.trans (hb2.out.mono hB'.out.size)⟩
end Go.Proofs.Ytebbbefknfldoaa
/- equs in memory; the document's find. -/
namespace Go.Proofs.Ytebbbefknfldoaa
open Go.ChangeShapes Go.WideShapes Go.ChangeAt Go.RowKit
set_option linter.unusedVariables false
set_option linter.unusedSimpArgs false
set_option maxRecDepth 100000
abbrev Eqv := List UInt8 × Lin
structure EqAt (w : World) (g o : Nat) (q : Eqv) (va : Option Addr) (vc : Nat) : Prop where
  name : w.cell? ⟨g, o, none⟩ = some (.string (str q.1))
  terms : w.cell? ⟨g, o + 1, none⟩ = some (.slice va q.2.terms.length vc)
  const : w.cell? ⟨g, o + 2, none⟩ = some (.int .u32 q.2.const)
  lies : TmLies w va q.2.terms
def EqIn (w : World) (a : Option Addr) (l : List Eqv) : Prop := l = [] ∨ ∃ g o, a = some ⟨g, o, none⟩ ∧ g < w.heap.size ∧ ∀ (i : Nat) (q : Eqv), l[i]? = some q → ∃ va vc, EqAt w g (o + i * 3) q va vc
theorem EqAt.below {w w' : World} {g o : Nat} {q : Eqv} {va : Option Addr} {vc : Nat} (h : EqAt w g o q va vc) (hg : g < w.heap.size) (hb : Below w.heap.size w w') : EqAt w' g o q va vc :=
  ⟨(hb.cell (p := ⟨g, o, none⟩) hg).trans h.name, (hb.cell (p := ⟨g, o + 1, none⟩) hg).trans h.terms, (hb.cell (p := ⟨g, o + 2, none⟩) hg).trans h.const, h.lies.below hb (Nat.le_refl _)⟩
theorem EqIn.below {w w' : World} {a : Option Addr} {l : List Eqv} (h : EqIn w a l) (hb : Below w.heap.size w w') : EqIn w' a l := by
  rcases h with h | ⟨g, o, ha, hg, h⟩
  · exact .inl h
  · refine .inr ⟨g, o, ha, Nat.lt_of_lt_of_le hg hb.size, fun i q hi => ?_⟩
    obtain ⟨va, vc, h1⟩ := h i q hi
    exact ⟨va, vc, h1.below hg hb⟩
def findF (nm : List UInt8) : List Eqv → Int → Int
  | [], _ => -1
  | q :: l, i => if q.1 = nm then i else findF nm l (i + 1)
theorem findF_drop (nm : List UInt8) (l : List Eqv) (i : Nat) (q : Eqv) (hq : l[i]? = some q) : findF nm (l.drop i) (i : Int) = if q.1 = nm then (i : Int) else findF nm (l.drop (i + 1)) ((i + 1 : Nat) : Int) := by
  have : l.drop i = q :: l.drop (i + 1) := by
    have h1 := (List.getElem?_eq_some_iff.1 hq)
    obtain ⟨h2, h3⟩ := h1
    rw [List.drop_eq_getElem_cons h2, h3]
  rw [this, findF]
  split
  · rfl
  · congr 1
set_option maxHeartbeats 4000000 in
theorem find_any (a : Option Addr) (c : Nat) (l : List Eqv) (nm : List UInt8) (hl : l.length ≤ 4400000) (w : World) (hI : EqIn w a l) : Calls Try.prog 34 #[.slice a l.length c, .string (str nm)] w fun e w' => e = .returned (.int .i64 (findF nm l 0)) ∧ w' = w := by
  have hget : Hid (∀ i, i < l.length → ∃ q, l[i]? = some q ∧ ∃ g o, a = some ⟨g, o, none⟩ ∧ w.cell? ⟨g, o + i * 3, none⟩ = some (.string (str q.1))) := fun i i1 => by
    obtain ⟨q, hq⟩ : ∃ q, l[i]? = some q := ⟨_, List.getElem?_eq_getElem i1⟩
    refine ⟨q, hq, ?_⟩
    rcases hI with rfl | ⟨g, o, ha, hg, hI⟩
    · cases hq
    · obtain ⟨va, vc, h⟩ := hI i q hq
      exact ⟨g, o, ha, h.name⟩
  have hst : Hid (∀ (i : Nat) (q : Eqv), l[i]? = some q → findF nm (l.drop i) (i : Int) = if q.1 = nm then (i : Int) else findF nm (l.drop (i + 1)) ((i + 1 : Nat) : Int)) := fun i q hq => findF_drop nm l i q hq
  have hend : Hid (∀ i, i = l.length → findF nm (l.drop i) (i : Int) = -1) := fun i hi => by rw [hi, List.drop_length]; rfl
  have h0 : Hid (findF nm (l.drop 0) ((0 : Nat) : Int) = findF nm l 0) := rfl
  generalize findF nm l 0 = R at *
  obtain ⟨n0, hn0⟩ : ∃ n0, n0 = l.length := ⟨_, rfl⟩
  rw [← hn0] at hl hget hend ⊢
  clear hn0 hI
  go_enter Try.func34, Try.ntmps34
  go_wp2
  all_goals first | omega | skip
  go_loopw [5] (fun v5 wr => ∃ (i : Nat), i ≤ n0 ∧ v5 = .int .i64 (i : Int) ∧ wr = w ∧ Hid (findF nm (l.drop i) (i : Int) = R)) (fun v5 _ => n0 - (intOf v5).toNat)
  case atStart => exact ⟨0, by omega, rfl, rfl, h0⟩
  case round =>
    obtain ⟨i, hi, rfl, rfl, hR⟩ := hrel
    by_cases hin : i < n0
    · obtain ⟨q, hq, g, o, ha, d0⟩ := hget.out i hin
      have hs := Hid.intro (hst.out i q hq)
      clear hq
      subst ha
      have hbe := str_beq q.1 nm
      by_cases hqn : q.1 = nm
      · rw [decide_eq_true hqn] at hbe
        have hy : Hid (R = (i : Int)) := by show _ = _; rw [← hR.out, hs.out, if_pos hqn]
        clear hs hR hqn
        go_wp2_with fail
        all_goals first | omega | skip
        go_ret
        refine ⟨?_, ?_⟩ <;> first | rfl | (rw [hy.out]; first | done | rfl)
      · rw [decide_eq_false hqn] at hbe
        have hy : Hid (findF nm (l.drop (i + 1)) ((i + 1 : Nat) : Int) = R) := by show _ = _; rw [← hR.out, hs.out, if_neg hqn]
        clear hs hR hqn
        go_wp2_with fail
        all_goals first | omega | skip
        go_roundw
        case rel => exact ⟨i + 1, by omega, by go_num, by trivial, hy⟩
        case measure => simp [intOf]; omega
    · obtain rfl : i = n0 := by omega
      have hy : Hid (R = -1) := by show _ = _; rw [← hR.out, hend.out i rfl]
      go_wp2_with fail
      all_goals first | omega | skip
      go_ret
      refine ⟨?_, ?_⟩ <;> first | rfl | (rw [hy.out]; first | done | rfl)
end Go.Proofs.Ytebbbefknfldoaa
/- A map of names to numbers in memory: map[string]int. -/
namespace Go.Proofs.Ytebbbefknfldoaa
open Go.ChangeShapes Go.WideShapes Go.ChangeAt Go.RowKit Go.WideMaps Go.Maps
set_option linter.unusedVariables false
set_option maxRecDepth 100000
theorem lawS : Keyed Try.prog 9 := string_keyed Try.underlying9
theorem zero3 (w : World) : (zeroValue 3).run Try.prog w = .ok (.int .i64 0) w := by kernel_rfl
def intE (v : Value) : Option (DataW Unit × List MemPlace) :=
  match v with
  | .int .i64 z => some (.lit (.int .i64 z), [])
  | _ => none
theorem intE_mk (z : Int) : intE (.int .i64 z) = some (.lit (.int .i64 z), []) := rfl
theorem intE_inv {v : Value} {z : Int} {ps : List MemPlace} (h : intE v = some (.lit (.int .i64 z), ps)) : v = .int .i64 z := by
  unfold intE at h
  split at h
  · simp at h
    rw [h.1]
  · cases h
def IntIs (w : World) (b n : Nat) (f : List UInt8 → Option Int) : Prop :=
  ∃ D : DataW Unit, w.ownsMap Try.prog 9 intE b n D ∧ IsMap D ∧ ∀ s, has D (.string s) = (f s).isSome ∧ ∀ z, f s = some z → ∀ zd, D.atKey (.string s) zd = .lit (.int .i64 z)
theorem IntIs.lt {w : World} {b n : Nat} {f : List UInt8 → Option Int} (h : IntIs w b n f) : b < w.heap.size := by
  obtain ⟨D, h1, _⟩ := h
  exact h1.lt
theorem IntIs.kept {w w' : World} {b n : Nat} {row : Option Nat} {f : List UInt8 → Option Int} (h : IntIs w b n f) (hg : w.grownBy w' row) (hne : some b ≠ row) : IntIs w' b n f := by
  obtain ⟨D, h1, h2, h3⟩ := h
  exact ⟨D, h1.kept hg hne, h2, h3⟩
theorem intlook_run {w : World} {b n : Nat} {f : List UInt8 → Option Int} (h : IntIs w b n f) (s : List UInt8) (hs : s.length ≤ 140737488355328) : (Instr.lookup 66 (.map (some b)) (.string (str s)) true).run Try.prog w = .ok (.tuple #[.int .i64 ((f s).getD 0), .bool (f s).isSome]) w := by
  obtain ⟨D, hown, hD1, hD2⟩ := h
  have hsz : (str s).size ≤ maxLen := by
    have h2 : (str s).size = s.length := by simp [str, ByteArray.size]
    unfold maxLen
    omega
  have hkey : keyOf Try.prog 9 (.string (str s)) = some (.string s) := keyOf_string_mk Try.underlying9 hsz
  obtain ⟨v, ps, hrun, hv⟩ := hown.look_ok lawS Try.underlying66 (zero3 w) (intE_mk 0) hkey
  rw [hrun, (hD2 s).1]
  cases hf : f s with
  | some z =>
    rw [(hD2 s).2 z hf] at hv
    rw [intE_inv hv]
    rfl
  | none =>
    have hno : has D (.string s) = false := by rw [(hD2 s).1, hf]; rfl
    rw [atKey_of_not_has hno] at hv
    rw [intE_inv hv]
    rfl
theorem intput_run {w : World} {b n : Nat} {f : List UInt8 → Option Int} (h : IntIs w b n f) (hn : n ≤ 3000000) (s : List UInt8) (z : Int) (hs : s.length ≤ 140737488355328) :
    ∃ w', (Instr.mapUpdate 66 (.map (some b)) (.string (str s)) (.int .i64 z)).run Try.prog w = .ok () w' ∧ IntIs w' b (n + 1) (fun x => if x = s then some z else f x) ∧ w.grownBy w' (some b) := by
  obtain ⟨D, hown, hD1, hD2⟩ := h
  have hsz : (str s).size ≤ maxLen := by
    have h2 : (str s).size = s.length := by simp [str, ByteArray.size]
    unfold maxLen
    omega
  have hkey : keyOf Try.prog 9 (.string (str s)) = some (.string s) := keyOf_string_mk Try.underlying9 hsz
  obtain ⟨w', hrun, r1, r2⟩ := hown.update lawS Try.underlying66 (by unfold maxLen; omega) hkey (intE_mk z)
  refine ⟨w', hrun, ⟨_, r1, hD1.put _ _, fun x => ?_⟩, r2⟩
  by_cases hx : x = s
  · subst hx
    simp only [if_true]
    refine ⟨by rw [has_put_same hD1 (show WideAt.IsKeyLit (.string x) from trivial)]; rfl, fun y hy zd => ?_⟩
    cases hy
    exact atKey_put_same hD1 (show WideAt.IsKeyLit (.string x) from trivial) _ _
  · have n1 : (Lit.string x) ≠ .string s := fun e => hx (by injection e)
    simp only [hx, if_false]
    refine ⟨by rw [has_put_other n1]; exact (hD2 x).1, fun y hy zd => ?_⟩
    rw [atKey_put_other n1]
    exact (hD2 x).2 y hy zd
end Go.Proofs.Ytebbbefknfldoaa
/- equ.walk's state in memory. -/
namespace Go.Proofs.Ytebbbefknfldoaa
open Go.ChangeShapes Go.WideShapes Go.ChangeAt Go.RowKit
set_option linter.unusedVariables false
set_option linter.unusedSimpArgs false
set_option maxRecDepth 100000
theorem wblk_lt {w : World} {g : Nat} {x : Obj} (h : w.heap[g]? = some x) : g < w.heap.size := (Array.getElem?_eq_some_iff.1 h).1
theorem row_set {w : World} {g : Nat} {T : TypeId} {cur : Array Value} (h : w.heap[g]? = some (.cells cur T (0, 0))) (j : Nat) (y : Value) :
    (w.setCell ⟨g, j, none⟩ y).heap[g]? = some (.cells (cur.setIfInBounds j y) T (0, 0)) ∧ w.grownBy (w.setCell ⟨g, j, none⟩ y) (some g) := by
  refine ⟨heap_setCell_same w g j _ T y h, ⟨rfl, rfl, rfl, by simp, fun k hk hne => ?_⟩⟩
  have hk' : k ≠ g := fun e => hne (by rw [e])
  rw [heap_setCell_other _ _ _ _ hk']
def rowN (l : List Nat) : List Value := l.map fun (x : Nat) => Value.int .i64 (x : Int)
theorem rowN_len (l : List Nat) : (rowN l).length = l.length := by simp [rowN]
def metR (n : Nat) (m : Nat → Nat) : Array Value := ((List.range n).map fun i => Value.int .i64 (m i : Int)).toArray
theorem metR_get (n : Nat) (m : Nat → Nat) (i : Nat) (hi : i < n) : (metR n m)[i]? = some (.int .i64 (m i : Int)) := by simp [metR, hi]
theorem metR_set (n : Nat) (m : Nat → Nat) (i x : Nat) (hi : i < n) : (metR n m).setIfInBounds i (.int .i64 (x : Int)) = metR n (Ta.upd m i x) := by
  unfold metR
  rw [List.setIfInBounds_toArray]
  congr 1
  apply List.ext_getElem?
  intro j
  rw [List.getElem?_set]
  by_cases hj : i = j
  · subst hj
    rw [if_pos rfl]
    simp [Ta.upd, hi]
  · rw [if_neg hj]
    by_cases hjn : j < n
    · simp [Ta.upd, hjn, fun e => hj (Eq.symm e)]
      rw [if_neg (fun e => hj e.symm)]
    · simp [hjn]
def nmOf (l : List Eqv) (i : Nat) : List UInt8 := ((l[i]?).map (·.1)).getD []
def backF (l : List Eqv) (b : List Nat) : List UInt8 → Option Int := b.foldl (fun f i => fun x => if x = nmOf l i then some (i : Int) else f x) (fun _ => none)
theorem backF_snoc (l : List Eqv) (b : List Nat) (i : Nat) : backF l (b ++ [i]) = fun x => if x = nmOf l i then some (i : Int) else backF l b x := by
  unfold backF
  rw [List.foldl_append]
  rfl
theorem own_cut {w : World} {lo : Nat} {T : TypeId} {a : Option Addr} {n c : Nat} {xs : List Value} (h : w.ownsRow lo T 1 (.slice a n c) n xs) (m : Nat) (hm : m ≤ n) (h0 : 0 < n) : w.ownsRow lo T 1 (.slice a m c) m (xs.take m) := by
  refine ⟨by have := h.1; simp; omega, ?_⟩
  rcases h.2 with ⟨_, e⟩ | ⟨g, cap, cur, hv, k2, k3, k4, k5, k6, k7⟩
  · omega
  · injection hv with e1 e2 e3
    subst e1
    subst e3
    refine .inr ⟨g, c, cur, rfl, k2, k3, by omega, k5, k6, ?_⟩
    rw [← k7, List.take_take]
    congr 1
    omega
structure Apart (b : Nat → Nat) (lo hi : Nat) : Prop where
  inj : ∀ i j, i < 12 → j < 12 → b i = b j → i = j
  ge : ∀ i, i < 12 → lo ≤ b i
  lt : ∀ i, i < 12 → b i < hi
theorem Apart.ne {b : Nat → Nat} {lo hi : Nat} (h : Apart b lo hi) {i j : Nat} (hi : i < 12) (hj : j < 12) (hij : i ≠ j) : b i ≠ b j := fun e => hij (h.inj i j hi hj e)
abbrev bp (b : Nat → Nat) (i : Nat) : Value := .pointer (some ⟨b i, 0, none⟩)
abbrev finV (b : Nat → Nat) : Value := .func (.func 42) #[] #[bp b 0, bp b 1, bp b 2, bp b 3, bp b 4]
abbrev visV (b : Nat → Nat) : Value := .func (.func 44) #[] #[bp b 5, bp b 0, bp b 1, bp b 2, bp b 6, bp b 8, bp b 7]
structure FS (w0 : World) (b : Nat → Nat) (l : List Eqv) (la : Option Addr) (lc na nb : Nat) (s : Ta.St) (w : World) : Prop where
  bel : Below w0.heap.size w0 w
  lie : EqIn w0 la l
  ap : Apart b w0.heap.size w.heap.size
  op : ∃ a c, w.heap[b 0]? = some (.cells #[.slice a s.opn.length c] 65 (0, 0)) ∧ w.ownsRow w0.heap.size 3 1 (.slice a s.opn.length c) s.opn.length (rowN s.opn) ∧ (∀ g, (Value.slice a s.opn.length c).ownBlock = some g → ∀ i, i < 12 → g ≠ b i) ∧
    ∃ a2 c2, w.heap[b 4]? = some (.cells #[.slice a2 s.order.length c2] 65 (0, 0)) ∧ w.ownsRow w0.heap.size 3 1 (.slice a2 s.order.length c2) s.order.length (rowN s.order) ∧ (∀ g, (Value.slice a2 s.order.length c2).ownBlock = some g → (∀ i, i < 12 → g ≠ b i) ∧ (Value.slice a s.opn.length c).ownBlock ≠ some g)
  mb : w.heap[b 1]? = some (.cells #[.slice (some ⟨b 9, 0, none⟩) l.length l.length] 65 (0, 0))
  mm : w.heap[b 9]? = some (.cells (metR l.length s.met) 3 (0, 0))
  lb : w.heap[b 2]? = some (.cells #[.slice la l.length lc] 22 (0, 0))
  kb : w.heap[b 3]? = some (.cells #[.map (some (b 10))] 66 (0, 0))
  kk : IntIs w (b 10) nb (backF l s.back)
  cb : w.heap[b 5]? = some (.cells #[.int .i64 (s.count : Int)] 3 (0, 0))
  ab : w.heap[b 6]? = some (.cells #[.map (some (b 11))] 66 (0, 0))
  aa : IntIs w (b 11) na (backF l (List.range l.length))
  fb : w.heap[b 7]? = some (.cells #[finV b] 84 (0, 0))
  vb : w.heap[b 8]? = some (.cells #[visV b] 85 (0, 0))
section
variable {w0 w w' w1 : World} {b : Nat → Nat} {l : List Eqv} {la : Option Addr} {lc na nb : Nat} {s : Ta.St}
theorem own_row {lo : Nat} {T : TypeId} {sz : Nat} {v : Value} {n : Nat} {xs : List Value} {k : Option Nat} (h : w.ownsRow lo T sz v n xs) (hk : ∀ g, v.ownBlock = some g → k ≠ some g) (hg : w.grownBy w' k) : w'.ownsRow lo T sz v n xs := by
  refine ⟨h.1, ?_⟩
  rcases h.2 with hx | ⟨g, cap, cur, k1, k2, k3, k4⟩
  · exact .inl hx
  · exact .inr ⟨g, cap, cur, k1, k2, (hg.block g (wblk_lt k3) (fun e => hk g (by rw [k1]; rfl) e.symm)).trans k3, k4⟩
theorem Apart.more {lo hi hi' : Nat} (h : Apart b lo hi) (hh : hi ≤ hi') : Apart b lo hi' := ⟨h.inj, h.ge, fun i hi => Nat.lt_of_lt_of_le (h.lt i hi) hh⟩
theorem FS.kp (h : FS w0 b l la lc na nb s w) {j : Nat} (hj : j < 12) (k1 : w.grownBy w' (some (b j))) {i : Nat} (hi : i < 12) (hij : i ≠ j) {ob : Obj} (hh : w.heap[b i]? = some ob) : w'.heap[b i]? = some ob :=
  (k1.block _ (wblk_lt hh) (fun e => h.ap.ne hi hj hij (Option.some.inj e))).trans hh
theorem FS.mp (h : FS w0 b l la lc na nb s w) {j : Nat} (hj : j < 12) (k1 : w.grownBy w' (some (b j))) {i n : Nat} (hi : i < 12) (hij : i ≠ j) {f : List UInt8 → Option Int} (hh : IntIs w (b i) n f) : IntIs w' (b i) n f :=
  hh.kept k1 (fun e => h.ap.ne hi hj hij (Option.some.inj e))
theorem FS.rows (h : FS w0 b l la lc na nb s w) {j : Nat} (hj : j < 12) (h0 : j ≠ 0) (h4 : j ≠ 4) (k1 : w.grownBy w' (some (b j))) : ∃ a c, w'.heap[b 0]? = some (.cells #[.slice a s.opn.length c] 65 (0, 0)) ∧ w'.ownsRow w0.heap.size 3 1 (.slice a s.opn.length c) s.opn.length (rowN s.opn) ∧ (∀ g, (Value.slice a s.opn.length c).ownBlock = some g → ∀ i, i < 12 → g ≠ b i) ∧
    ∃ a2 c2, w'.heap[b 4]? = some (.cells #[.slice a2 s.order.length c2] 65 (0, 0)) ∧ w'.ownsRow w0.heap.size 3 1 (.slice a2 s.order.length c2) s.order.length (rowN s.order) ∧ (∀ g, (Value.slice a2 s.order.length c2).ownBlock = some g → (∀ i, i < 12 → g ≠ b i) ∧ (Value.slice a s.opn.length c).ownBlock ≠ some g) := by
  obtain ⟨a, c, o1, o2, o3, a2, c2, r1, r2, r3⟩ := h.op
  exact ⟨a, c, h.kp hj k1 (by decide) (Ne.symm h0) o1, own_row o2 (fun g hg e => o3 g hg j hj (by cases e; rfl)) k1, o3, a2, c2, h.kp hj k1 (by decide) (Ne.symm h4) r1, own_row r2 (fun g hg e => (r3 g hg).1 j hj (by cases e; rfl)) k1, r3⟩
theorem FS.bel' (h : FS w0 b l la lc na nb s w) {j : Nat} (hj : j < 12) (k1 : w.grownBy w' (some (b j))) : Below w0.heap.size w0 w' := h.bel.grown k1 h.bel.size (fun g e => by cases e; exact h.ap.ge j hj)
theorem FS.below (h : FS w0 b l la lc na nb s w) (hb : Below w.heap.size w w') : FS w0 b l la lc na nb s w' := by
  have hg : w.grownBy w' none := ⟨hb.os, hb.tape, hb.output, hb.size, fun k hk _ => hb.block k hk⟩
  have kp : ∀ {i : Nat} {ob : Obj}, w.heap[i]? = some ob → w'.heap[i]? = some ob := fun hh => (hb.block _ (wblk_lt hh)).trans hh
  obtain ⟨a, c, o1, o2, o3, a2, c2, r1, r2, r3⟩ := h.op
  exact ⟨h.bel.trans (hb.mono h.bel.size), h.lie, h.ap.more hb.size, ⟨a, c, kp o1, own_row o2 (fun g _ e => by cases e) hg, o3, a2, c2, kp r1, own_row r2 (fun g _ e => by cases e) hg, r3⟩, kp h.mb, kp h.mm, kp h.lb, kp h.kb, h.kk.kept hg (by simp), kp h.cb, kp h.ab, h.aa.kept hg (by simp), kp h.fb, kp h.vb⟩
theorem FS.metSet (h : FS w0 b l la lc na nb s w) (i x : Nat) (hi : i < l.length) : FS w0 b l la lc na nb { s with met := Ta.upd s.met i x } (w.setCell ⟨b 9, i, none⟩ (.int .i64 (x : Int))) ∧ w.grownBy (w.setCell ⟨b 9, i, none⟩ (.int .i64 (x : Int))) (some (b 9)) := by
  obtain ⟨s1, k1⟩ := row_set h.mm i (.int .i64 (x : Int))
  rw [metR_set _ _ _ _ hi] at s1
  have d : (9 : Nat) < 12 := by decide
  exact ⟨⟨h.bel' d k1, h.lie, h.ap.more k1.size, h.rows d (by decide) (by decide) k1, h.kp d k1 (by decide) (by decide) h.mb, s1, h.kp d k1 (by decide) (by decide) h.lb, h.kp d k1 (by decide) (by decide) h.kb, h.mp d k1 (by decide) (by decide) h.kk, h.kp d k1 (by decide) (by decide) h.cb, h.kp d k1 (by decide) (by decide) h.ab, h.mp d k1 (by decide) (by decide) h.aa, h.kp d k1 (by decide) (by decide) h.fb, h.kp d k1 (by decide) (by decide) h.vb⟩, k1⟩
theorem FS.backPut (h : FS w0 b l la lc na nb s w) (i : Nat) (hk : IntIs w' (b 10) (nb + 1) (fun x => if x = nmOf l i then some (i : Int) else backF l s.back x)) (k1 : w.grownBy w' (some (b 10))) : FS w0 b l la lc na (nb + 1) { s with back := s.back ++ [i] } w' := by
  have d : (10 : Nat) < 12 := by decide
  exact ⟨h.bel' d k1, h.lie, h.ap.more k1.size, h.rows d (by decide) (by decide) k1, h.kp d k1 (by decide) (by decide) h.mb, h.kp d k1 (by decide) (by decide) h.mm, h.kp d k1 (by decide) (by decide) h.lb, h.kp d k1 (by decide) (by decide) h.kb, by rw [backF_snoc]; exact hk, h.kp d k1 (by decide) (by decide) h.cb, h.kp d k1 (by decide) (by decide) h.ab, h.mp d k1 (by decide) (by decide) h.aa, h.kp d k1 (by decide) (by decide) h.fb, h.kp d k1 (by decide) (by decide) h.vb⟩
theorem FS.cntSet (h : FS w0 b l la lc na nb s w) (x : Nat) : FS w0 b l la lc na nb { s with count := x } (w.setCell ⟨b 5, 0, none⟩ (.int .i64 (x : Int))) ∧ w.grownBy (w.setCell ⟨b 5, 0, none⟩ (.int .i64 (x : Int))) (some (b 5)) := by
  obtain ⟨s1, k1⟩ := row_set h.cb 0 (.int .i64 (x : Int))
  have d : (5 : Nat) < 12 := by decide
  exact ⟨⟨h.bel' d k1, h.lie, h.ap.more k1.size, h.rows d (by decide) (by decide) k1, h.kp d k1 (by decide) (by decide) h.mb, h.kp d k1 (by decide) (by decide) h.mm, h.kp d k1 (by decide) (by decide) h.lb, h.kp d k1 (by decide) (by decide) h.kb, h.mp d k1 (by decide) (by decide) h.kk, s1, h.kp d k1 (by decide) (by decide) h.ab, h.mp d k1 (by decide) (by decide) h.aa, h.kp d k1 (by decide) (by decide) h.fb, h.kp d k1 (by decide) (by decide) h.vb⟩, k1⟩
theorem FS.cut (h : FS w0 b l la lc na nb s w) {a : Option Addr} {c : Nat} (ho : w.heap[b 0]? = some (.cells #[.slice a s.opn.length c] 65 (0, 0))) (m : Nat) (hm : m ≤ s.opn.length) (h0 : 0 < s.opn.length) : FS w0 b l la lc na nb { s with opn := s.opn.take m } (w.setCell ⟨b 0, 0, none⟩ (.slice a m c)) ∧ w.grownBy (w.setCell ⟨b 0, 0, none⟩ (.slice a m c)) (some (b 0)) := by
  obtain ⟨a', c', o1, o2, o3, a2, c2, r1, r2, r3⟩ := h.op
  rw [ho] at o1
  simp only [Option.some.injEq, Obj.cells.injEq, Array.mk.injEq, List.cons.injEq, Value.slice.injEq, true_and, and_true] at o1
  obtain ⟨rfl, rfl⟩ := o1
  obtain ⟨s1, k1⟩ := row_set ho 0 (.slice a m c)
  have d : (0 : Nat) < 12 := by decide
  have e1 : (s.opn.take m).length = m := by simp; omega
  have hob : ∀ g, (Value.slice a m c).ownBlock = some g ↔ (Value.slice a s.opn.length c).ownBlock = some g := fun g => by cases a <;> rfl
  have o4 := own_row (own_cut o2 m hm h0) (k := some (b 0)) (fun g hg e => o3 g ((hob g).1 hg) 0 d (by cases e; rfl)) k1
  refine ⟨⟨h.bel' d k1, h.lie, h.ap.more k1.size, ⟨a, c, by rw [e1]; exact s1, ?_, by rw [e1]; exact fun g hg => o3 g ((hob g).1 hg), a2, c2, h.kp d k1 (by decide) (by decide) r1, own_row r2 (fun g hg e => (r3 g hg).1 0 d (by cases e; rfl)) k1, by rw [e1]; exact fun g hg => ⟨(r3 g hg).1, fun e => (r3 g hg).2 ((hob g).1 e)⟩⟩, h.kp d k1 (by decide) (by decide) h.mb, h.kp d k1 (by decide) (by decide) h.mm, h.kp d k1 (by decide) (by decide) h.lb, h.kp d k1 (by decide) (by decide) h.kb, h.mp d k1 (by decide) (by decide) h.kk, h.kp d k1 (by decide) (by decide) h.cb, h.kp d k1 (by decide) (by decide) h.ab, h.mp d k1 (by decide) (by decide) h.aa, h.kp d k1 (by decide) (by decide) h.fb, h.kp d k1 (by decide) (by decide) h.vb⟩, k1⟩
  rw [e1, show rowN (s.opn.take m) = (rowN s.opn).take m by unfold rowN; rw [List.map_take]]
  exact o4
end
end Go.Proofs.Ytebbbefknfldoaa
/- equ.walk's state: order and open grow. -/
namespace Go.Proofs.Ytebbbefknfldoaa
open Go.ChangeShapes Go.WideShapes Go.ChangeAt Go.RowKit
set_option linter.unusedVariables false
set_option linter.unusedSimpArgs false
set_option maxRecDepth 100000
section
variable {w0 w w' w1 : World} {b : Nat → Nat} {l : List Eqv} {la : Option Addr} {lc na nb : Nat} {s : Ta.St}
theorem FS.two (h : FS w0 b l la lc na nb s w) {k : Option Nat} (hk : ∀ g, k = some g → (∀ i, i < 12 → g ≠ b i) ∧ w0.heap.size ≤ g) (hg : w.grownBy w1 k) {j : Nat} (hj : j < 12) (hg2 : w1.grownBy w' (some (b j))) :
    Below w0.heap.size w0 w' ∧ w.heap.size ≤ w'.heap.size ∧ (∀ i ob, i < 12 → w.heap[b i]? = some ob → w1.heap[b i]? = some ob) ∧ (∀ i ob, i < 12 → i ≠ j → w.heap[b i]? = some ob → w'.heap[b i]? = some ob) ∧ (∀ i n f, i < 12 → i ≠ j → IntIs w (b i) n f → IntIs w' (b i) n f) := by
  have hne : ∀ i, i < 12 → some (b i) ≠ k := fun i hi e => (hk _ e.symm).1 i hi rfl
  have k1 : ∀ i ob, i < 12 → w.heap[b i]? = some ob → w1.heap[b i]? = some ob := fun i ob hi hh => (hg.block _ (wblk_lt hh) (hne i hi)).trans hh
  have h1 := h.bel.grown hg h.bel.size (fun g e => (hk g e).2)
  refine ⟨h1.grown hg2 h1.size (fun g e => by cases e; exact h.ap.ge j hj), Nat.le_trans hg.size hg2.size, k1, fun i ob hi hij hh => ?_, fun i n f hi hij hh => ?_⟩
  · have := k1 i ob hi hh
    exact (hg2.block _ (wblk_lt this) (fun e => h.ap.ne hi hj hij (Option.some.inj e))).trans this
  · exact (hh.kept hg (hne i hi)).kept hg2 (fun e => h.ap.ne hi hj hij (Option.some.inj e))
theorem rowN_app (x y : List Nat) : rowN (x ++ y) = rowN x ++ rowN y := by unfold rowN; rw [List.map_append]
theorem FS.ordPush (h : FS w0 b l la lc na nb s w) {a2 : Option Addr} {c2 : Nat} (hr : w.heap[b 4]? = some (.cells #[.slice a2 s.order.length c2] 65 (0, 0))) (ys : List Nat) {a3 : Option Addr} {c3 : Nat} (ho : w1.ownsRow w0.heap.size 3 1 (.slice a3 (s.order.length + ys.length) c3) (s.order.length + ys.length) (rowN s.order ++ rowN ys)) (hg : w.grownBy w1 (Value.slice a2 s.order.length c2).ownBlock)
    (hw : (Value.slice a3 (s.order.length + ys.length) c3).ownBlock = (Value.slice a2 s.order.length c2).ownBlock ∨ (Value.slice a3 (s.order.length + ys.length) c3).ownBlock = some w.heap.size) :
    w1.heap[b 4]? = some (.cells #[.slice a2 s.order.length c2] 65 (0, 0)) ∧ FS w0 b l la lc na nb { s with order := s.order ++ ys } (w1.setCell ⟨b 4, 0, none⟩ (.slice a3 (s.order.length + ys.length) c3)) := by
  obtain ⟨a, c, o1, o2, o3, a', c', r1, r2, r3⟩ := h.op
  rw [hr] at r1
  simp only [Option.some.injEq, Obj.cells.injEq, Array.mk.injEq, List.cons.injEq, Value.slice.injEq, true_and, and_true] at r1
  obtain ⟨rfl, rfl⟩ := r1
  have d : (4 : Nat) < 12 := by decide
  have hr1 := (hg.block _ (wblk_lt hr) (fun e => (r3 _ e.symm).1 4 d rfl)).trans hr
  obtain ⟨s1, k1⟩ := row_set hr1 0 (.slice a3 (s.order.length + ys.length) c3)
  obtain ⟨t1, t2, t3, t4, t5⟩ := h.two (fun g e => ⟨(r3 g e).1, (r2.lt g e).1⟩) hg d k1
  have hlt : ∀ g, (Value.slice a s.opn.length c).ownBlock = some g → g < w.heap.size := fun g e => (o2.lt g e).2
  have hnew : ∀ g, (Value.slice a3 (s.order.length + ys.length) c3).ownBlock = some g → (∀ i, i < 12 → g ≠ b i) ∧ (Value.slice a s.opn.length c).ownBlock ≠ some g := fun g e => by
    rcases hw with hw | hw
    · rw [hw] at e
      exact r3 g e
    · rw [hw] at e
      cases e
      exact ⟨fun i hi e2 => by have := h.ap.lt i hi; omega, fun e2 => by have := hlt _ e2; omega⟩
  have e1 : (s.order ++ ys).length = s.order.length + ys.length := List.length_append
  refine ⟨hr1, t1, h.lie, h.ap.more t2, ⟨a, c, t4 0 _ (by decide) (by decide) o1, own_row (own_row o2 (fun g hgg e => (r3 g e).2 hgg) hg) (fun g hgg e => o3 g hgg 4 d (by cases e; rfl)) k1, o3, a3, c3, by rw [e1]; exact s1, ?_, by rw [e1]; exact hnew⟩, t4 1 _ (by decide) (by decide) h.mb, t4 9 _ (by decide) (by decide) h.mm, t4 2 _ (by decide) (by decide) h.lb, t4 3 _ (by decide) (by decide) h.kb, t5 10 _ _ (by decide) (by decide) h.kk, t4 5 _ (by decide) (by decide) h.cb, t4 6 _ (by decide) (by decide) h.ab, t5 11 _ _ (by decide) (by decide) h.aa, t4 7 _ (by decide) (by decide) h.fb, t4 8 _ (by decide) (by decide) h.vb⟩
  rw [e1, rowN_app]
  exact own_row ho (fun g hgg e => (hnew g hgg).1 4 d (by cases e; rfl)) k1
theorem FS.opPush (h : FS w0 b l la lc na nb s w) {a : Option Addr} {c : Nat} (ho0 : w.heap[b 0]? = some (.cells #[.slice a s.opn.length c] 65 (0, 0))) (x : Nat) {a3 : Option Addr} {c3 : Nat} (ho : w1.ownsRow w0.heap.size 3 1 (.slice a3 (s.opn.length + 1) c3) (s.opn.length + 1) (rowN s.opn ++ [.int .i64 (x : Int)])) (hg : w.grownBy w1 (Value.slice a s.opn.length c).ownBlock)
    (hw : (Value.slice a3 (s.opn.length + 1) c3).ownBlock = (Value.slice a s.opn.length c).ownBlock ∨ (Value.slice a3 (s.opn.length + 1) c3).ownBlock = some w.heap.size) :
    w1.heap[b 0]? = some (.cells #[.slice a s.opn.length c] 65 (0, 0)) ∧ FS w0 b l la lc na nb { s with opn := s.opn ++ [x] } (w1.setCell ⟨b 0, 0, none⟩ (.slice a3 (s.opn.length + 1) c3)) := by
  obtain ⟨a', c', o1, o2, o3, a2, c2, r1, r2, r3⟩ := h.op
  rw [ho0] at o1
  simp only [Option.some.injEq, Obj.cells.injEq, Array.mk.injEq, List.cons.injEq, Value.slice.injEq, true_and, and_true] at o1
  obtain ⟨rfl, rfl⟩ := o1
  have d : (0 : Nat) < 12 := by decide
  have hr1 := (hg.block _ (wblk_lt ho0) (fun e => o3 _ e.symm 0 d rfl)).trans ho0
  obtain ⟨s1, k1⟩ := row_set hr1 0 (.slice a3 (s.opn.length + 1) c3)
  obtain ⟨t1, t2, t3, t4, t5⟩ := h.two (fun g e => ⟨o3 g e, (o2.lt g e).1⟩) hg d k1
  have hlt : ∀ g, (Value.slice a2 s.order.length c2).ownBlock = some g → g < w.heap.size := fun g e => (r2.lt g e).2
  have hnew : ∀ g, (Value.slice a3 (s.opn.length + 1) c3).ownBlock = some g → (∀ i, i < 12 → g ≠ b i) ∧ (Value.slice a2 s.order.length c2).ownBlock ≠ some g := fun g e => by
    rcases hw with hw | hw
    · rw [hw] at e
      exact ⟨o3 g e, fun e2 => (r3 g e2).2 e⟩
    · rw [hw] at e
      cases e
      exact ⟨fun i hi e2 => by have := h.ap.lt i hi; omega, fun e2 => by have := hlt _ e2; omega⟩
  have e1 : (s.opn ++ [x]).length = s.opn.length + 1 := by simp
  refine ⟨hr1, t1, h.lie, h.ap.more t2, ⟨a3, c3, by rw [e1]; exact s1, ?_, by rw [e1]; exact fun g hgg => (hnew g hgg).1, a2, c2, t4 4 _ (by decide) (by decide) r1, own_row (own_row r2 (fun g hgg e => (r3 g hgg).2 e) hg) (fun g hgg e => (r3 g hgg).1 0 d (by cases e; rfl)) k1, by rw [e1]; exact fun g hgg => ⟨(r3 g hgg).1, fun e => (hnew g e).2 hgg⟩⟩, t4 1 _ (by decide) (by decide) h.mb, t4 9 _ (by decide) (by decide) h.mm, t4 2 _ (by decide) (by decide) h.lb, t4 3 _ (by decide) (by decide) h.kb, t5 10 _ _ (by decide) (by decide) h.kk, t4 5 _ (by decide) (by decide) h.cb, t4 6 _ (by decide) (by decide) h.ab, t5 11 _ _ (by decide) (by decide) h.aa, t4 7 _ (by decide) (by decide) h.fb, t4 8 _ (by decide) (by decide) h.vb⟩
  rw [e1, rowN_app]
  exact own_row ho (fun g hgg e => (hnew g hgg).1 0 d (by cases e; rfl)) k1
end
end Go.Proofs.Ytebbbefknfldoaa
/- Lists that grow: a list laid behind one that is owned, and the block that it lies in then. -/
namespace Go.Proofs.Ytebbbefknfldoaa
open Go.ChangeShapes Go.WideShapes Go.ChangeAt Go.RowKit
set_option linter.unusedVariables false
set_option maxRecDepth 100000
def Src (w : World) (vb : Value) (m : Nat) (news : List Value) : Prop := (vb = .slice none 0 0 ∧ m = 0 ∧ news = []) ∨ ∃ a c, vb = .slice (some a) m c ∧ ∀ j u, news[j]? = some u → w.cell? (a.add j) = some u
section
variable {P : Program}
theorem app_where (w : World) (base : Nat) (t ty e : TypeId) (i : TypeInfo) (z : Value) (ht : P.underlying t = some (.slice e)) (hi : P.info? e = some i) (hz : i.zero = some z)
    (v : Value) (n : Nat) (xs : List Value) (hown : w.ownsRow base e i.size v n xs)
    (a : Addr) (m c : Nat) (news : List Value) (hl : news.length = m * i.size) (hnews : ∀ j u, news[j]? = some u → w.cell? (a.add j) = some u) (h1 : ∀ u ∈ news, u.oneCell' = true)
    (h63 : n + m ≤ maxLen) (hbytes : ((n + m) + (n + m) / 4 + 192) * i.bytes ≤ 281474976710656) {v' : Value} {w' : World}
    (hr : (Builtin.append_ #[t, t] ty #[v, .slice (some a) m c]).run P w = .ok v' w') : v'.ownBlock = v.ownBlock ∨ v'.ownBlock = some w.heap.size := by
  have hsmall : n + m ≤ 9223372036854775807 := by simp only [maxLen] at h63; omega
  rcases hown.2 with ⟨rfl, rfl⟩ | ⟨g, cap, cur, rfl, hbg, hg, hnc, hcm, hcs, htake⟩
  · by_cases hm : m = 0
    · subst hm
      have h0 : (Builtin.append_ #[t, t] ty #[.slice none 0 0, .slice (some a) 0 c]).run P w = .ok (.slice none 0 0) w := by
        simp [Builtin.append_, run_underlying ht, sizeOf, typeInfo, hi, Builtin.lenOf, Builtin.firstCells, loadCells, loadCellsFrom]
      rw [h0] at hr
      cases hr
      exact .inl rfl
    · rw [run_append_nil (P := P) w t ty e i z ht hi hz a m c news hl hnews (by omega) (by omega) (Nat.le_trans (Nat.mul_le_mul_right _ (by omega)) hbytes)] at hr
      cases hr
      exact .inr rfl
  · by_cases hroom : n + m ≤ cap
    · rw [run_append_room (P := P) w t ty e i ht hi g n cap cur hg a m c news hl hnews h1 hroom (by rw [hl, hcs, ← Nat.add_mul]; exact Nat.mul_le_mul_right _ hroom)] at hr
      cases hr
      exact .inl rfl
    · rw [run_append_grow (P := P) w t ty e i z ht hi hz ⟨g, 0, none⟩ n cap xs hown.1 (hown.cells (g := g) rfl) a m c news hl hnews (by omega) (by omega) (growslice_fits_wide (by omega) hbytes)] at hr
      cases hr
      exact .inr rfl
theorem app_run (w : World) (base : Nat) (t ty e : TypeId) (i : TypeInfo) (z : Value) (size bytes : Nat) (ht : P.underlying t = some (.slice e)) (hi : P.info? e = some i) (hz : i.zero = some z)
    (hsize : i.size = size) (hby : i.bytes = bytes) (hzs : z.cells.size = size) (hsz : 0 < size)
    (v : Value) (n : Nat) (xs : List Value) (hown : w.ownsRow base e size v n xs)
    (vb : Value) (m : Nat) (news : List Value) (hsrc : Src w vb m news) (hl : news.length = m * size) (h1 : ∀ u ∈ news, u.oneCell' = true)
    (h63 : n + m ≤ maxLen) (hbytes : ((n + m) + (n + m) / 4 + 192) * bytes ≤ 281474976710656) (hbase : base ≤ w.heap.size) :
    ∃ v' w', (Builtin.append_ #[t, t] ty #[v, vb]).run P w = .ok v' w' ∧ w'.ownsRow base e size v' (n + m) (xs ++ news) ∧ w.grownBy w' v.ownBlock ∧ (v'.ownBlock = v.ownBlock ∨ v'.ownBlock = some w.heap.size) := by
  rcases hsrc with ⟨rfl, rfl, rfl⟩ | ⟨a, c, rfl, hnews⟩
  · refine ⟨v, w, run_append_owned_none (P := P) (w := w) base t ty e i size ht hi v n xs hown, by simpa using hown, ⟨rfl, rfl, rfl, Nat.le_refl _, fun _ _ _ => rfl⟩, .inl rfl⟩
  · obtain ⟨v', w', hr, h2, h3, _⟩ := run_append_own_wide (P := P) w base t ty e i z size bytes ht hi hz hsize hby hzs hsz v n xs hown a m c news hl hnews h1 h63 hbytes hbase
    subst hsize
    subst hby
    exact ⟨v', w', hr, h2, h3, app_where w base t ty e i z ht hi hz v n xs hown a m c news hl hnews h1 h63 hbytes hr⟩
theorem wpList_app {w : World} {ops : Array Oper} {rest : List Oper} {o : Oper} {a : Act} {Q : Exit → Act → World → Prop} (hgd : o.guard = none) (s x : Operand) (t : TypeId)
    (ho : o.op = .call { callee := .builtin .append, args := #[s, x], argTypes := #[t, t] })
    (base : Nat) (e : TypeId) (i : TypeInfo) (z : Value) (size bytes : Nat) (ht : P.underlying t = some (.slice e)) (hi : P.info? e = some i) (hz : i.zero = some z)
    (hsize : i.size = size) (hby : i.bytes = bytes) (hzs : z.cells.size = size) (hsz : 0 < size)
    (v : Value) (n : Nat) (xs : List Value) (hs : a.eval s = v) (hown : w.ownsRow base e size v n xs)
    (vb : Value) (m : Nat) (news : List Value) (hx : a.eval x = vb) (hsrc : Src w vb m news) (hl : news.length = m * size) (h1 : ∀ u ∈ news, u.oneCell' = true)
    (h63 : n + m ≤ maxLen) (hbytes : ((n + m) + (n + m) / 4 + 192) * bytes ≤ 281474976710656) (hbase : base ≤ w.heap.size)
    (h : ∀ v' w', w'.ownsRow base e size v' (n + m) (xs ++ news) → w.grownBy w' v.ownBlock → (v'.ownBlock = v.ownBlock ∨ v'.ownBlock = some w.heap.size) → wpList P ops Q rest (a.put o.dst v') w') : wpList P ops Q (o :: rest) a w := by
  refine wpList_plain hgd fun K hK => ?_
  obtain ⟨v', w', hrun, h2, h3, h4⟩ := app_run (P := P) w base t o.type e i z size bytes ht hi hz hsize hby hzs hsz v n xs hown vb m news hsrc hl h1 h63 hbytes hbase
  unfold Oper.wp
  simp [execOp, ho, resolve, invoke, builtin, hs, hx, hrun, Result.andThen]
  exact hK _ _ (h v' w' h2 h3 h4)
end
end Go.Proofs.Ytebbbefknfldoaa
namespace Go.Proofs.Ytebbbefknfldoaa
set_option linter.unusedVariables false
def onsOf (ops : Array Oper) (j : Nat) : List Nat := ((ops[j]?).map fun o => (o.after.toList.filter fun e => Region.binds .any e).map (·.on)).getD []
def markF (ops : Array Oper) : Nat → List Nat → List Nat
  | 0, s => s
  | j + 1, s => markF ops j (if s.contains j then onsOf ops j ++ s else s)
def lastB (ops : Array Oper) (L : Nat) : Bool := (List.range ops.size).all fun j => (markF ops ops.size [L]).contains j && (onsOf ops j).all fun i => decide (i < j)
def ClosedL (ops : Array Oper) (listed : Array Bool) : Prop := ∀ j oj, ops[j]? = some oj → listed.getD j false = true → ∀ e ∈ oj.after, Region.binds .any e = true → listed.getD e.on false = true
theorem mem_ons {ops : Array Oper} {j i : Nat} : i ∈ onsOf ops j ↔ ∃ o, ops[j]? = some o ∧ ∃ e ∈ o.after, Region.binds .any e = true ∧ e.on = i := by
  unfold onsOf
  cases h : ops[j]? with
  | none => simp
  | some o => simp [and_assoc]
theorem mark_listed {ops : Array Oper} {listed : Array Bool} (hc : ClosedL ops listed) {L : Nat} (hL : L ∈ Region.ready .any ops listed) : ∀ (n : Nat) (s : List Nat), (∀ j ∈ s, j = L ∨ listed.getD j false = true) → ∀ j ∈ markF ops n s, j = L ∨ listed.getD j false = true := by
  intro n
  induction n with
  | zero => intro s h; exact h
  | succ n ih =>
    intro s h
    refine ih _ ?_
    by_cases hn : s.contains n = true
    · rw [if_pos hn]
      intro j hj
      rcases List.mem_append.1 hj with hj | hj
      · obtain ⟨o, ho, e, he, hb, rfl⟩ := mem_ons.1 hj
        right
        rcases h n (by simpa using hn) with rfl | hl
        · obtain ⟨_, o', ho', hall⟩ := mem_ready.1 hL
          rw [ho] at ho'
          cases ho'
          exact hall e he hb
        · exact hc n o ho hl e he hb
      · exact h j hj
    · rw [if_neg hn]
      exact h
theorem last_all {ops : Array Oper} {listed : Array Bool} (hc : ClosedL ops listed) {L : Nat} (hL : L ∈ Region.ready .any ops listed) (hb : lastB ops L = true) {j : Nat} (hj : j < ops.size) (hne : j ≠ L) : listed.getD j false = true := by
  have h := List.all_eq_true.1 hb j (List.mem_range.2 hj)
  simp only [Bool.and_eq_true] at h
  rcases mark_listed hc hL ops.size [L] (fun i hi => .inl (by simpa using hi)) j (by simpa using h.1) with h1 | h1
  · exact absurd h1 hne
  · exact h1
theorem some_ready {ops : Array Oper} {listed : Array Bool} {L : Nat} (hb : lastB ops L = true) (hs : listed.size = ops.size) : ∀ (n : Nat), n < ops.size → listed.getD n true = false → Region.ready .any ops listed ≠ [] := by
  intro n
  induction n using Nat.strongRecOn with
  | _ n ih =>
    intro hn hl h0
    by_cases hr : n ∈ Region.ready .any ops listed
    · rw [h0] at hr; cases hr
    · have h := List.all_eq_true.1 hb n (List.mem_range.2 hn)
      simp only [Bool.and_eq_true, List.all_eq_true, decide_eq_true_eq] at h
      apply hr
      refine mem_ready.2 ⟨hl, ops[n], Array.getElem?_eq_getElem hn, fun e he hbd => ?_⟩
      have hlt := h.2 e.on (mem_ons.2 ⟨_, Array.getElem?_eq_getElem hn, e, he, hbd, rfl⟩)
      cases hd : listed.getD e.on false with
      | true => rfl
      | false =>
        exfalso
        refine ih e.on hlt (by omega) ?_ h0
        have : e.on < listed.size := by omega
        simp [this] at hd ⊢
        exact hd
def noOp (o : Oper) : Oper := { o with op := .move (.const (.int .i64 0)), dst := none }
def lastQ (P : Program) (oL : Oper) (Q : Exit → Act → World → Prop) : Exit → Act → World → Prop := fun e a w => match e with
  | .normal => oL.wp P a w (fun a' w' => Q .normal a' w') Q
  | e => Q e a w
section
variable {P : Program} {ops : Array Oper} {Q : Exit → Act → World → Prop} {L : Nat} {oL : Oper}
theorem ready_swap (hL : ops[L]? = some oL) (listed : Array Bool) : Region.ready .any (ops.setIfInBounds L (noOp oL)) listed = Region.ready .any ops listed := by
  unfold Region.ready
  rw [Array.size_setIfInBounds]
  congr 1
  funext i
  by_cases h : L = i
  · subst h
    have hlt : L < ops.size := (Array.getElem?_eq_some_iff.1 hL).1
    rw [Array.getElem?_setIfInBounds_self_of_lt hlt, hL]
    rfl
  · rw [Array.getElem?_setIfInBounds_ne h]
theorem yielded_swap (hL : ops[L]? = some oL) (hd : oL.dst = none) (tmps : Array Value) : yielded (ops.setIfInBounds L (noOp oL)) tmps = yielded ops tmps := by
  funext i
  unfold yielded
  by_cases h : L = i
  · subst h
    have hlt : L < ops.size := (Array.getElem?_eq_some_iff.1 hL).1
    rw [Array.getElem?_setIfInBounds_self_of_lt hlt, hL]
    simp [noOp, hd]
  · rw [Array.getElem?_setIfInBounds_ne h]
theorem wpO_post {o : Oper} {a : Act} {w : World} {K : Act → World → Prop} {Q Q2 : Exit → Act → World → Prop} (hp : ∀ c a w, Q2 (.panic c) a w → Q (.panic c) a w) (ho : LetsOut Q2 → LetsOut Q) (h : o.wp P a w K Q2) : o.wp P a w K Q := by
  unfold Oper.wp at *
  generalize (execOp a.eval o).run P w = r at *
  cases r with
  | ok n w' =>
    cases n <;> simp only [Oper.upon] at h ⊢ <;>
      first
        | exact h
        | exact Calls.mono h (fun e w'' he => by cases e <;> first | exact he | exact hp _ _ _ he | exact ho he)
  | halt x w' => cases x <;> simp only [Oper.upon] at h ⊢ <;> exact hp _ _ _ h
theorem lets_last (h : LetsOut (lastQ P oL Q)) : LetsOut Q := h
theorem any_swap (hL : ops[L]? = some oL) (hd : oL.dst = none) (hg : oL.guard = none) (hb : lastB ops L = true) :
    ∀ (fuel : Nat) (listed : Array Bool) (a : Act) (w : World), ClosedL ops listed → listed.size = ops.size → listed.getD L true = false → wpAny P .any (ops.setIfInBounds L (noOp oL)) (lastQ P oL Q) fuel listed a w → wpAny P .any ops Q fuel listed a w := by
  have hlt : L < ops.size := (Array.getElem?_eq_some_iff.1 hL).1
  intro fuel
  induction fuel with
  | zero =>
    intro listed a w hc hs hu h
    exact absurd (by rw [← ready_swap hL]; exact h.1) (some_ready hb hs L hlt hu)
  | succ fuel ih =>
    intro listed a w hc hs hu h
    refine ⟨fun h0 => absurd h0 (some_ready hb hs L hlt hu), fun i hi => ?_⟩
    have h1 := h.2 i (by rw [ready_swap hL]; exact hi)
    by_cases e : L = i
    · subst e
      have hr0 : Region.ready .any ops (listed.setIfInBounds L true) = [] := by
        apply List.eq_nil_iff_forall_not_mem.2
        intro j hj
        obtain ⟨hj0, o, ho, _⟩ := mem_ready.1 hj
        have hjs : j < ops.size := (Array.getElem?_eq_some_iff.1 ho).1
        by_cases ej : L = j
        · subst ej
          have : L < listed.size := by omega
          simp [this] at hj0
        · rw [getD_set_ne true ej] at hj0
          have := last_all hc hi hb hjs (Ne.symm ej)
          have hl : j < listed.size := by omega
          simp [hl] at this hj0
          rw [this] at hj0
          cases hj0
      have h2 : wpAny P .any (ops.setIfInBounds L (noOp oL)) (lastQ P oL Q) fuel (listed.setIfInBounds L true) a w := by
        unfold wpOp at h1
        rw [Array.getElem?_setIfInBounds_self_of_lt hlt] at h1
        have hw : Region.wanted (noOp oL) (yielded (ops.setIfInBounds L (noOp oL)) a.tmps) = true := by simp [Region.wanted, noOp, hg]
        simp only [hw, if_true] at h1
        rcases h1 with h1 | h1
        · unfold Oper.wp at h1
          simpa [execOp, noOp, Oper.upon, Act.put] using h1
        · obtain ⟨h1, _⟩ := h1
          have h2 : noRoomEvent ∈ (((pure (.value (a.eval (.const (.int .i64 0)))) : Sem Next)).runT P w #[]).2 := h1.1
          have h3 : (((pure (.value (a.eval (.const (.int .i64 0)))) : Sem Next)).runT P w #[]).2 = #[] := rfl
          rw [h3] at h2
          simp at h2
      have h3 : lastQ P oL Q .normal a w := by
        cases fuel with
        | zero => exact h2.2
        | succ f => exact h2.1 (by rw [ready_swap hL]; exact hr0)
      unfold wpOp
      rw [hL]
      have hw : Region.wanted oL (yielded ops a.tmps) = true := by simp [Region.wanted, hg]
      simp only [hw, if_true]
      exact .inl (Oper.wp_mono (fun a' w' hq => wpAny_done hr0 hq fuel) h3)
    · have hu' : (listed.setIfInBounds i true).getD L true = false := by rw [getD_set_ne true (Ne.symm e)]; exact hu
      have hc' : ClosedL ops (listed.setIfInBounds i true) := by
        intro j oj hj hl ed he hbd
        by_cases ej : i = j
        · subst ej
          obtain ⟨_, o, ho, hall⟩ := mem_ready.1 hi
          rw [hj] at ho
          cases ho
          exact getD_set_true (hall ed he hbd)
        · rw [getD_set_ne false ej] at hl
          exact getD_set_true (hc j oj hj hl ed he hbd)
      have h2 := wpOp_mono (fun a' w' h => ih (listed.setIfInBounds i true) a' w' hc' (by simpa using hs) hu' h) h1
      unfold wpOp at h2 ⊢
      rw [Array.getElem?_setIfInBounds_ne e] at h2
      cases ho : ops[i]? with
      | none => simpa [ho] using h2
      | some o =>
        simp only [ho, yielded_swap hL hd] at h2 ⊢
        split
        · rename_i hw
          simp only [hw, if_true] at h2
          rcases h2 with h2 | ⟨h2, h3⟩
          · exact .inl (wpO_post (fun c a w h => h) (lets_last (P := P) (oL := oL)) h2)
          · exact .inr ⟨h2, lets_last (P := P) (oL := oL) h3⟩
        · rename_i hw
          simpa [hw] using h2
theorem wp_region_last {id : Nat} {a : Act} {w : World} (hm : P.follows .mixedOrders = true) (L : Nat) (oL : Oper) (hL : ops[L]? = some oL) (hd : oL.dst = none) (hg : oL.guard = none) (hb : lastB ops L = true) (S : World → Prop) (hS : S w.drew)
    (h : S w.drew → wpAnyH P .any (ops.setIfInBounds L (noOp oL)) (lastQ P oL Q) S ops.size (Array.replicate ops.size false) a w.drew) : (Code.region id ops true).wp P Q a w := by
  have hlt : L < ops.size := (Array.getElem?_eq_some_iff.1 hL).1
  refine wp_region_any hm (any_swap hL hd hg hb ops.size _ a _ ?_ (by simp) (by simp [hlt]) (wpAny_of_held _ _ _ _ (h hS)))
  intro j oj hj hl
  have hj' : j < ops.size := (Array.getElem?_eq_some_iff.1 hj).1
  simp [hj'] at hl
end
end Go.Proofs.Ytebbbefknfldoaa
