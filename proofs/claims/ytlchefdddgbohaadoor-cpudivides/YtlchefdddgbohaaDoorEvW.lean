/- Values and heaps held against each other, as they are written. -/
import Derived.Test.YtlchefdddgbohaaDoorEvH
noncomputable section
namespace Go.Ev
open Go.RowKit
set_option linter.unusedVariables false
set_option linter.unusedSimpArgs false
def same : List UInt8 → List UInt8 → Bool
  | [], [] => true
  | a :: x, b :: y => Nat.beq a.toNat b.toNat && same x y
  | _, _ => false
theorem beq8 (a b : UInt8) : Nat.beq a.toNat b.toNat = (a == b) := by
  rw [Tr.beq_iff]
  by_cases h : a = b
  · subst h; simp
  · rw [decide_eq_false (fun e => h (UInt8.toNat_inj.1 e))]
    simp [h]
theorem same_is : ∀ l m : List UInt8, same l m = (l == m)
  | [], [] => rfl
  | [], _ :: _ => rfl
  | _ :: _, [] => rfl
  | a :: x, b :: y => by
    rw [same, beq8, same_is x y]
    rfl
def beqC0 : Value → Value → Bool
  | .bool a, .bool b => a == b
  | .int k a, .int l b => decide (k = l) && decide (a = b)
  | .string a, .string b => same a.data.toList b.data.toList
  | .pointer none, .pointer none => true
  | .pointer (some ⟨a, i, none⟩), .pointer (some ⟨b, j, none⟩) => Nat.beq a b && Nat.beq i j
  | .slice none n c, .slice none m d => Nat.beq n m && Nat.beq c d
  | .slice (some ⟨a, i, none⟩) n c, .slice (some ⟨b, j, none⟩) m d => Nat.beq a b && Nat.beq i j && Nat.beq n m && Nat.beq c d
  | .map none, .map none => true
  | .map (some a), .map (some b) => Nat.beq a b
  | .nilFunc, .nilFunc => true
  | .nilIface, .nilIface => true
  | _, _ => false
def beqL0 : List Value → List Value → Bool
  | [], [] => true
  | a :: l, b :: m => beqC0 a b && beqL0 l m
  | _, _ => false
def beqC (v u : Value) : Bool := match v, u with
  | .func (.func g) f c, .func (.func k) f2 c2 => Nat.beq g k && beqL0 f.toList f2.toList && beqL0 c.toList c2.toList
  | v, u => beqC0 v u
def beqL : List Value → List Value → Bool
  | [], [] => true
  | a :: l, b :: m => beqC a b && beqL l m
  | _, _ => false
def beqV1 (v u : Value) : Bool := match v, u with
  | .agg a, .agg b => beqL a.toList b.toList
  | v, u => beqC v u
def beqL1 : List Value → List Value → Bool
  | [], [] => true
  | a :: l, b :: m => beqV1 a b && beqL1 l m
  | _, _ => false
def beqV (v u : Value) : Bool := match v, u with
  | .tuple a, .tuple b => beqL1 a.toList b.toList
  | v, u => beqV1 v u
theorem beqC0_eq {v u : Value} (h : beqC0 v u = true) : v = u := by
  unfold beqC0 at h
  split at h <;> (try simp only [Bool.and_eq_true, decide_eq_true_iff, beq_iff_eq, Tr.beq_iff] at h)
  · rw [h]
  · rw [h.1, h.2]
  · rename_i a b
    rw [same_is, beq_iff_eq] at h
    congr 1
    exact ByteArray.ext (Array.ext' h)
  · rfl
  · rw [h.1, h.2]
  · rw [h.1, h.2]
  · rw [h.1.1.1, h.1.1.2, h.1.2, h.2]
  · rfl
  · rw [h]
  · rfl
  · rfl
  · cases h
theorem beqL0_eq : ∀ {l m : List Value}, beqL0 l m = true → l = m
  | [], [], _ => rfl
  | [], _ :: _, h => by cases h
  | _ :: _, [], h => by cases h
  | a :: l, b :: m, h => by
    rw [beqL0, Bool.and_eq_true] at h
    rw [beqC0_eq h.1, beqL0_eq h.2]
theorem beqC_eq {v u : Value} (h : beqC v u = true) : v = u := by
  unfold beqC at h
  split at h
  · rw [Bool.and_eq_true, Bool.and_eq_true] at h
    obtain ⟨⟨h1, h2⟩, h3⟩ := h
    have e1 := Nat.eq_of_beq_eq_true h1
    have e2 := Array.ext' (beqL0_eq h2)
    have e3 := Array.ext' (beqL0_eq h3)
    subst e1
    subst e2
    subst e3
    rfl
  · exact beqC0_eq h
theorem beqL_eq : ∀ {l m : List Value}, beqL l m = true → l = m
  | [], [], _ => rfl
  | [], _ :: _, h => by cases h
  | _ :: _, [], h => by cases h
  | a :: l, b :: m, h => by
    rw [beqL, Bool.and_eq_true] at h
    rw [beqC_eq h.1, beqL_eq h.2]
theorem beqV1_eq {v u : Value} (h : beqV1 v u = true) : v = u := by
  unfold beqV1 at h
  split at h
  · congr 1
    exact Array.ext' (beqL_eq h)
  · exact beqC_eq h
theorem beqL1_eq : ∀ {l m : List Value}, beqL1 l m = true → l = m
  | [], [], _ => rfl
  | [], _ :: _, h => by cases h
  | _ :: _, [], h => by cases h
  | a :: l, b :: m, h => by
    rw [beqL1, Bool.and_eq_true] at h
    rw [beqV1_eq h.1, beqL1_eq h.2]
theorem beqV_eq {v u : Value} (h : beqV v u = true) : v = u := by
  unfold beqV at h
  split at h
  · congr 1
    exact Array.ext' (beqL1_eq h)
  · exact beqV1_eq h

def eqE : List (Value × Value × Nat) → List (Value × Value × Nat) → Bool
  | [], [] => true
  | (a, b, n) :: l, (c, d, m) :: k => beqV a c && beqV b d && Nat.beq n m && eqE l k
  | _, _ => false
theorem eqE_eq : ∀ {l m : List (Value × Value × Nat)}, eqE l m = true → l = m
  | [], [], _ => rfl
  | [], _ :: _, h => by cases h
  | _ :: _, [], h => by cases h
  | (a, b, n) :: l, (c, d, m) :: k, h => by
    rw [eqE, Bool.and_eq_true, Bool.and_eq_true, Bool.and_eq_true] at h
    rw [beqV_eq h.1.1.1, beqV_eq h.1.1.2, Nat.eq_of_beq_eq_true h.1.2, eqE_eq h.2]
def eqNs : List Nat → List Nat → Bool
  | [], [] => true
  | a :: l, b :: k => Nat.beq a b && eqNs l k
  | _, _ => false
theorem eqNs_eq : ∀ {l m : List Nat}, eqNs l m = true → l = m
  | [], [], _ => rfl
  | [], _ :: _, h => by cases h
  | _ :: _, [], h => by cases h
  | a :: l, b :: k, h => by
    rw [eqNs, Bool.and_eq_true] at h
    rw [Nat.eq_of_beq_eq_true h.1, eqNs_eq h.2]
def eqOb : Ob → Ob → Bool
  | .row ⟨a, e, g⟩, .row ⟨b, f, k⟩ => beqL a b && Nat.beq e f && (g == k)
  | .map a n, .map b m => eqE a b && Nat.beq n m
  | .defd, .defd => true
  | .iter none s l q, .iter none t k r => Nat.beq s t && eqNs l k && Nat.beq q r
  | .iter (some a) s l q, .iter (some b) t k r => Nat.beq a b && Nat.beq s t && eqNs l k && Nat.beq q r
  | _, _ => false
theorem eqOb_eq {a b : Ob} (h : eqOb a b = true) : a = b := by
  unfold eqOb at h
  split at h <;> (try simp only [Bool.and_eq_true, beq_iff_eq] at h)
  · rw [beqL_eq h.1.1, Nat.eq_of_beq_eq_true h.1.2, h.2]
  · rw [eqE_eq h.1, Nat.eq_of_beq_eq_true h.2]
  · rfl
  · rw [Nat.eq_of_beq_eq_true h.1.1, eqNs_eq h.1.2, Nat.eq_of_beq_eq_true h.2]
  · rw [Nat.eq_of_beq_eq_true h.1.1.1, Nat.eq_of_beq_eq_true h.1.1.2, eqNs_eq h.1.2, Nat.eq_of_beq_eq_true h.2]
  · cases h
def eqTr {α : Type} (f : α → α → Bool) : Tr α → Tr α → Bool
  | .lf, .lf => true
  | .nd (some v) l r, .nd (some u) k q => f v u && eqTr f l k && eqTr f r q
  | .nd none l r, .nd none k q => eqTr f l k && eqTr f r q
  | _, _ => false
theorem eqTr_eq {α : Type} {f : α → α → Bool} (hf : ∀ {a b}, f a b = true → a = b) : ∀ {s t : Tr α}, eqTr f s t = true → s = t
  | .lf, .lf, _ => rfl
  | .nd (some v) l r, .nd (some u) k q, h => by
    rw [eqTr, Bool.and_eq_true, Bool.and_eq_true] at h
    rw [hf h.1.1, eqTr_eq hf h.1.2, eqTr_eq hf h.2]
  | .nd none l r, .nd none k q, h => by
    rw [eqTr, Bool.and_eq_true] at h
    rw [eqTr_eq hf h.1, eqTr_eq hf h.2]
  | .lf, .nd _ _ _, h => by simp [eqTr] at h
  | .nd _ _ _, .lf, h => by simp [eqTr] at h
  | .nd (some _) _ _, .nd none _ _, h => by simp [eqTr] at h
  | .nd none _ _, .nd (some _) _ _, h => by simp [eqTr] at h
/-- heaps of the same tables (held against each other as they are written) -/
def eqHp (a b : Hp) : Bool := eqTr eqOb a.heap b.heap && Nat.beq a.next b.next && eqTr beqL a.tab b.tab
theorem eqHp_eq {a b : Hp} (h : eqHp a b = true) : a = b := by
  unfold eqHp at h
  rw [Bool.and_eq_true, Bool.and_eq_true] at h
  obtain ⟨a1, a2, a3⟩ := a
  obtain ⟨b1, b2, b3⟩ := b
  have e1 := eqTr_eq eqOb_eq h.1.1
  have e2 := Nat.eq_of_beq_eq_true h.1.2
  have e3 := eqTr_eq beqL_eq h.2
  dsimp only at e1 e2 e3
  rw [e1, e2, e3]
/-- names are given up -/
def delA : List Nat → Hp → Hp
  | [], h => h
  | k :: l, h => delA l ⟨h.heap.del k, h.next, h.tab⟩
/-- where two heaps are not the same -/
def diffT : Tr Ob → Tr Ob → (Nat → Nat) → List Nat
  | .nd v l r, .nd u k q, f => (match v, u with
    | some a, some b => bif eqOb a b then [] else [f 0]
    | none, none => []
    | _, _ => [f 0]) ++ (diffT l k (fun n => f (2 * n + 1)) ++ diffT r q (fun n => f (2 * n + 2)))
  | _, _, _ => []
end Go.Ev
