/- Bits of whole numbers of 32 bits: and, or, xor add up. Plain facts. -/
import Derived.RowKit
import Derived.WalkKit
import Derived.Test.YtlchefdddgbohaaDoorDoR
namespace Go.Proofs.YtlchefdddgbohaaDoor
open Go.RowKit
set_option linter.unusedVariables false
theorem nat_and_or : ∀ (n a b : Nat), a < 2 ^ n → b < 2 ^ n → (a &&& b) + (a ||| b) = a + b ∧ (a ^^^ b) + (a &&& b) = (a ||| b)
  | 0, a, b, ha, hb => by
    have : a = 0 := by omega
    have : b = 0 := by omega
    subst_vars
    exact ⟨rfl, rfl⟩
  | n + 1, a, b, ha, hb => by
    obtain ⟨h1, h2⟩ := nat_and_or n (a / 2) (b / 2) (by omega) (by omega)
    have e1 : (a &&& b) / 2 = a / 2 &&& b / 2 := Nat.and_div_two
    have e2 : (a ||| b) / 2 = a / 2 ||| b / 2 := Nat.or_div_two
    have e3 : (a ^^^ b) / 2 = a / 2 ^^^ b / 2 := Nat.xor_div_two
    have m1 : (a &&& b) % 2 = (a % 2) &&& (b % 2) := Nat.and_mod_two_pow (n := 1)
    have m2 : (a ||| b) % 2 = (a % 2) ||| (b % 2) := Nat.or_mod_two_pow (n := 1)
    have m3 : (a ^^^ b) % 2 = (a % 2) ^^^ (b % 2) := Nat.xor_mod_two_pow (n := 1)
    have d1 := Nat.div_add_mod (a &&& b) 2
    have d2 := Nat.div_add_mod (a ||| b) 2
    have d3 := Nat.div_add_mod (a ^^^ b) 2
    have da := Nat.div_add_mod a 2
    have db := Nat.div_add_mod b 2
    have ca : a % 2 = 0 ∨ a % 2 = 1 := by omega
    have cb : b % 2 = 0 ∨ b % 2 = 1 := by omega
    rw [e1, m1] at d1
    rw [e2, m2] at d2
    rw [e3, m3] at d3
    generalize a / 2 &&& b / 2 = A at *
    generalize a / 2 ||| b / 2 = O at *
    generalize a / 2 ^^^ b / 2 = X at *
    rcases ca with ca | ca <;> rcases cb with cb | cb <;> rw [ca, cb] at d1 d2 d3 <;> simp at d1 d2 d3 <;> omega
theorem bits_nat (x y : Int) : ∃ a b : Nat, a < 4294967296 ∧ b < 4294967296 ∧ (a : Int) = x % 4294967296 ∧ (b : Int) = y % 4294967296 ∧ bits .and .i32 x y = wrap32 ((a &&& b : Nat) : Int) ∧ bits .or .i32 x y = wrap32 ((a ||| b : Nat) : Int) ∧ bits .xor .i32 x y = wrap32 ((a ^^^ b : Nat) : Int) := by
  refine ⟨(BitVec.ofInt 32 x).toNat, (BitVec.ofInt 32 y).toNat, (BitVec.ofInt 32 x).isLt, (BitVec.ofInt 32 y).isLt, ?_, ?_, ?_, ?_, ?_⟩
  · rw [BitVec.toNat_ofInt]; omega
  · rw [BitVec.toNat_ofInt]; omega
  · rw [← BitVec.toNat_and, ← wrap_is]; rfl
  · rw [← BitVec.toNat_or, ← wrap_is]; rfl
  · rw [← BitVec.toNat_xor, ← wrap_is]; rfl
theorem w_is (u : Int) : ∃ k : Int, wrap32 u = u + 4294967296 * k := ⟨-((u + 2147483648) / 4294967296), by unfold wrap32; omega⟩
theorem w_congr {u v : Int} (k : Int) (h : u = v + 4294967296 * k) : wrap32 u = wrap32 v := by
  unfold wrap32
  omega
theorem bits_and_or (x y : Int) : wrap32 (bits .and .i32 x y + bits .or .i32 x y) = wrap32 (x + y) := by
  obtain ⟨a, b, ha, hb, ex, ey, e1, e2, _⟩ := bits_nat x y
  have h1 := (nat_and_or 32 a b ha hb).1
  rw [e1, e2]
  clear e1 e2
  revert h1
  generalize (a &&& b) = A
  generalize (a ||| b) = O
  intro h1
  obtain ⟨k, hk⟩ := w_is (A : Int)
  obtain ⟨m, hm⟩ := w_is (O : Int)
  rw [hk, hm]
  have hx : x = (a : Int) + 4294967296 * (x / 4294967296) := by omega
  have hy : y = (b : Int) + 4294967296 * (y / 4294967296) := by omega
  refine w_congr (k + m - x / 4294967296 - y / 4294967296) ?_
  have h2 : (A : Int) + O = a + b := by omega
  omega
theorem bits_xor (x y : Int) : bits .xor .i32 x y = wrap32 (bits .or .i32 x y - bits .and .i32 x y) := by
  obtain ⟨a, b, ha, hb, ex, ey, e1, e2, e3⟩ := bits_nat x y
  have h2 := (nat_and_or 32 a b ha hb).2
  rw [e1, e2, e3]
  clear e1 e2 e3
  revert h2
  generalize (a &&& b) = A
  generalize (a ||| b) = O
  generalize (a ^^^ b) = X
  intro h2
  obtain ⟨k, hk⟩ := w_is (A : Int)
  obtain ⟨m, hm⟩ := w_is (O : Int)
  rw [hk, hm]
  refine w_congr (k - m) ?_
  omega
theorem xor_ones (b : Nat) (hb : b < 4294967296) : 4294967295 ^^^ b = 4294967295 - b := by
  have h1 := (nat_and_or 32 4294967295 b (by decide) hb).2
  have h2 : 4294967295 &&& b = b := by
    rw [Nat.and_comm, show (4294967295 : Nat) = 2 ^ 32 - 1 from rfl, Nat.and_two_pow_sub_one_eq_mod]
    exact Nat.mod_eq_of_lt hb
  have h3 := (nat_and_or 32 4294967295 b (by decide) hb).1
  omega
theorem bits_not (x : Int) : bits .xor .i32 (-1) x = wrap32 (-1 - x) := by
  obtain ⟨a, b, ha, hb, ex, ey, e1, e2, e3⟩ := bits_nat (-1) x
  have ea : a = 4294967295 := by omega
  subst ea
  rw [e3, xor_ones b hb]
  refine w_congr (x / 4294967296 + 1) ?_
  omega
theorem not_neg (x : Int) : wrap32 (-(bits .xor .i32 (-1) x)) = wrap32 (x + 1) := by
  rw [bits_not]
  obtain ⟨k, hk⟩ := w_is (-1 - x)
  rw [hk]
  exact w_congr (-k) (by omega)
theorem add_sub (a b : Int) (h : -2147483648 ≤ a ∧ a ≤ 2147483647) : wrap32 (wrap32 (a + b) - b) = a := by
  unfold wrap32
  omega
end Go.Proofs.YtlchefdddgbohaaDoor
