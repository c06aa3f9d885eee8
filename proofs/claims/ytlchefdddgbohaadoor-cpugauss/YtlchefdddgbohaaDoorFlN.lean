/- Doubles up to which number that is none a NaN is. Plain facts. -/
import GoSem.Core.Float
import GoSem.Op.Unary
import GoSem.Op.FloatArith
import GoSem.Op.FloatCmp
import GoSem.Conv.FloatToInt
namespace Go.Proofs.PlainF
open Ieee
set_option linter.unusedVariables false
set_option linter.unusedSimpArgs false
set_option maxRecDepth 100000

/-- no number -/
def IsN (w : Nat) : Prop := ∃ s f, double.read w = .nan s f
/-- alike, up to which NaN it is -/
def Sm (x y : Nat) : Prop := x = y ∨ (IsN x ∧ IsN y)
theorem Sm.refl (x : Nat) : Sm x x := .inl rfl
theorem Sm.symm {x y : Nat} (h : Sm x y) : Sm y x := by
  rcases h with h | h
  · exact .inl h.symm
  · exact .inr ⟨h.2, h.1⟩
/-- what an operation answers: the word, or any NaN -/
def Ans (o : Option Nat) (r : Nat) : Prop := match o with
  | some w => r = w
  | none => IsN r
theorem sum_nan_left {s : Bool} {f : Nat} (d : Datum) : Datum.sum (.nan s f) d = none := by unfold Datum.sum; rfl
theorem sum_nan_right {s : Bool} {f : Nat} (d : Datum) : Datum.sum d (.nan s f) = none := by cases d <;> rfl
theorem product_nan_left {s : Bool} {f : Nat} (d : Datum) : Datum.product (.nan s f) d = none := by unfold Datum.product; rfl
theorem product_nan_right {s : Bool} {f : Nat} (d : Datum) : Datum.product d (.nan s f) = none := by cases d <;> rfl
theorem order_nan_left {s : Bool} {f : Nat} (d : Datum) : Datum.order (.nan s f) d = none := by unfold Datum.order; rfl
theorem order_nan_right {s : Bool} {f : Nat} (d : Datum) : Datum.order d (.nan s f) = none := by cases d <;> rfl
theorem add_nan {x y : Nat} (h : IsN x ∨ IsN y) : double.add x y = none := by
  unfold Format.add
  rcases h with ⟨s, f, h⟩ | ⟨s, f, h⟩
  · rw [h, sum_nan_left]; rfl
  · rw [h, sum_nan_right]; rfl
theorem sub_nan {x y : Nat} (h : IsN x ∨ IsN y) : double.sub x y = none := by
  unfold Format.sub
  rcases h with ⟨s, f, h⟩ | ⟨s, f, h⟩
  · rw [h, sum_nan_left]; rfl
  · rw [h]
    show (Datum.sum _ (.nan (!s) f)).map _ = none
    rw [sum_nan_right]; rfl
theorem mul_nan {x y : Nat} (h : IsN x ∨ IsN y) : double.mul x y = none := by
  unfold Format.mul
  rcases h with ⟨s, f, h⟩ | ⟨s, f, h⟩
  · rw [h, product_nan_left]; rfl
  · rw [h, product_nan_right]; rfl
theorem order_nan {x y : Nat} (h : IsN x ∨ IsN y) : double.order x y = none := by
  unfold Format.order
  rcases h with ⟨s, f, h⟩ | ⟨s, f, h⟩
  · rw [h, order_nan_left]
  · rw [h, order_nan_right]
/-- alike operands have alike answers -/
theorem Sm.op {op : Nat → Nat → Option Nat} (hop : ∀ x y, IsN x ∨ IsN y → op x y = none) {x y x' y' r r' : Nat} (hx : Sm x x') (hy : Sm y y') (h : Ans (op x y) r) (h' : Ans (op x' y') r') : Sm r r' := by
  by_cases hn : (IsN x ∧ IsN x') ∨ (IsN y ∧ IsN y')
  · have h1 : op x y = none := hop x y (by rcases hn with h | h; exact .inl h.1; exact .inr h.1)
    have h2 : op x' y' = none := hop x' y' (by rcases hn with h | h; exact .inl h.2; exact .inr h.2)
    rw [h1] at h
    rw [h2] at h'
    exact .inr ⟨h, h'⟩
  · have e1 : x = x' := by
      rcases hx with h | h
      · exact h
      · exact absurd (.inl h) hn
    have e2 : y = y' := by
      rcases hy with h | h
      · exact h
      · exact absurd (.inr h) hn
    subst e1 e2
    cases ho : op x y with
    | some w =>
      rw [ho] at h h'
      exact .inl (h.trans h'.symm)
    | none =>
      rw [ho] at h h'
      exact .inr ⟨h, h'⟩
theorem Sm.order {x y : Nat} (h : Sm x y) (c : Nat) : double.order x c = double.order y c ∧ double.order c x = double.order c y := by
  rcases h with h | h
  · rw [h]; exact ⟨rfl, rfl⟩
  · rw [order_nan (.inl h.1), order_nan (.inl h.2), order_nan (.inr h.1), order_nan (.inr h.2)]; exact ⟨rfl, rfl⟩
/-- what is drawn for no number is none -/
theorem nan_drawn (t : Nat) : IsN ((t % 2) * 2 ^ 63 + 0x7ff0000000000000 + 1 + (t / 2) % (2 ^ 52 - 1)) ∧ (t % 2) * 2 ^ 63 + 0x7ff0000000000000 + 1 + (t / 2) % (2 ^ 52 - 1) < 2 ^ 64 := by
  have h1 : (t / 2) % (2 ^ 52 - 1) < 2 ^ 52 - 1 := Nat.mod_lt _ (by decide)
  have h2 : t % 2 < 2 := Nat.mod_lt _ (by decide)
  generalize (t / 2) % (2 ^ 52 - 1) = y at *
  generalize t % 2 = b at *
  refine ⟨?_, by omega⟩
  have d1 : double.binade = 2 ^ 52 := by decide
  have d2 : double.infRung = 2047 * 2 ^ 52 := by decide
  have d3 : double.signWeight = 2 ^ 63 := by decide
  generalize hR : b * 2 ^ 63 + 0x7ff0000000000000 + 1 + y = R
  have e2 : R % 2 ^ 63 = 2047 * 2 ^ 52 + 1 + y := by omega
  unfold IsN Format.read
  rw [d1, d2, d3]
  simp only [e2]
  rw [if_neg (by omega), if_neg (by omega), if_neg (by omega)]
  exact ⟨_, _, rfl⟩
end Go.Proofs.PlainF
