/- cpuRing: the walk. -/
import Derived.Test.YtlchefdddgbohaaDoorRgS
namespace Go.Proofs.YtlchefdddgbohaaDoor
open Go.ChangeShapes Go.WideShapes Go.ChangeAt Go.RowKit
set_option linter.unusedVariables false
set_option linter.unusedSimpArgs false
set_option maxRecDepth 100000
set_option maxHeartbeats 64000000 in
theorem ring_lt (a b : Int) (w : World) (hT : Tab w ∧ Kin w) (ha : -2147483648 ≤ a ∧ a ≤ 2147483647) (hb : -2147483648 ≤ b ∧ b ≤ 2147483647) (hab : a < b) :
    Calls Tryd.prog 6 #[.int .i32 a, .int .i32 b] w fun e w' => e = .returned (.bool true) ∧ Below w.heap.size w w' := by
  have q9 : reckN 23 a b = 1 := by simp [reckN, hab]
  have q10 : reckN 24 a b = 0 := by (have : ¬ a = b := by omega); simp [reckN, this]
  have h1 : a < b := hab
  have h2 : (a == b) = false := by simp; omega
  clear hab
  have q1 : reckN 14 a b = wrap32 (a + b) := by simp [reckN]
  have q2 : reckN 15 (wrap32 (a + b)) b = a := by simp [reckN, add_sub a b ha]
  have q3 : reckN 9 (reckN 10 a 0) 0 = wrap32 (a + 1) := by simp [reckN, not_neg]
  have q5 : reckN 16 a b = wrap32 (a * b) := by simp [reckN]
  have q6 : reckN 13 a b = b := by simp [reckN]
  have q7 : wrap32 (reckN 18 a b + reckN 19 a b) = wrap32 (a + b) := by simp [reckN, bits_and_or]
  have q8 : reckN 20 a b = wrap32 (reckN 19 a b - reckN 18 a b) := by simp [reckN, bits_xor a b]
  have F := fresh_nil w
  have T := Hid.intro (fun (p : Nat) (W : World) (x y : Int) (h : R12 w W p x y) => True.intro)
  have T_add := fun (p : Nat) (W : World) (x y : Int) (h : R12 w W p x y) => two_add hT h a b ha hb
  have T_lt := fun (p : Nat) (W : World) (x y : Int) (h : R12 w W p x y) => two_lt hT h a b ha hb
  have T_eq := fun (p : Nat) (W : World) (x y : Int) (h : R12 w W p x y) => two_eq hT h a b ha hb
  have T_or := fun (p : Nat) (W : World) (x y : Int) (h : R12 w W p x y) => two_lor hT h a b ha hb
  have T_and := fun (p : Nat) (W : World) (x y : Int) (h : R12 w W p x y) => two_land hT h a b ha hb
  have T_xor := fun (p : Nat) (W : World) (x y : Int) (h : R12 w W p x y) => two_xor hT h a b ha hb
  have T_mov := fun (p : Nat) (W : World) (x y : Int) (h : R12 w W p x y) => two_mov hT h a b ha hb
  have T_mul := fun (p : Nat) (W : World) (x y : Int) (h : R12 w W p x y) => two_mul hT h a b ha hb
  simp only [q1] at T_add
  simp only [q5] at T_mul
  simp only [q6] at T_mov
  simp only [q8] at T_xor
  simp only [q9] at T_lt
  simp only [q10] at T_eq
  have D_sub := fun (p : Nat) (W : World) (h : R12 w W p (wrap32 (a + b)) b) => d_sub hT h
  simp only [q2] at D_sub
  have S1 := fun (p : Nat) (W : World) (x y : Int) (h : R12 w W p x y) => set_r hT h a b ha hb
  have D_not := fun (p : Nat) (W : World) (h : R12 w W p a b) => d_lnot hT h
  have D_neg := fun (p : Nat) (W : World) (h : R12 w W p (reckN 10 a 0) b) => d_neg hT h
  simp only [q3] at D_neg
  generalize reckN 10 a 0 = nt at *
  generalize reckN 19 a b = O at *
  generalize reckN 18 a b = A at *
  have G := fun (p : Nat) (W : World) (x y : Int) (h : R12 w W p x y) => reg_r h
  have K := fun (p : Nat) (W : World) (x y : Int) (h : R12 w W p x y) => known_r hT h
  replace T_add := Hid.intro T_add
  replace T_mul := Hid.intro T_mul
  replace T_mov := Hid.intro T_mov
  replace T_xor := Hid.intro T_xor
  replace T_lt := Hid.intro T_lt
  replace T_eq := Hid.intro T_eq
  replace T_or := Hid.intro T_or
  replace T_and := Hid.intro T_and
  replace D_sub := Hid.intro D_sub
  replace S1 := Hid.intro S1
  replace D_not := Hid.intro D_not
  replace D_neg := Hid.intro D_neg
  replace G := Hid.intro G
  replace K := Hid.intro K
  replace F := Hid.intro F
  clear q1 q2 q3 q5 q6 q8 q9 q10
  have q7b : (wrap32 (A + O) == wrap32 (a + b)) = true := by rw [q7]; simp
  replace ha := Hid.intro ha
  replace hb := Hid.intro hb
  replace hT := Hid.intro hT
  clear T
  go_enter Tryd.func6, Tryd.ntmps6
  go_wp2_with (first
    | (go_at_call 10; (with_reducible refine F.out.mono ?_); rintro e w1 ⟨p, rfl, hS⟩; replace hS := Hid.intro hS)
    | (go_at_call 25; first | ((with_reducible refine (T_add.out _ _ _ _ hS.out).mono ?_); rintro e w1 ⟨rfl, hS1⟩; replace hS := Hid.intro hS1; clear hS1) | ((with_reducible refine (T_lt.out _ _ _ _ hS.out).mono ?_); rintro e w1 ⟨rfl, hS1⟩; replace hS := Hid.intro hS1; clear hS1) | ((with_reducible refine (T_eq.out _ _ _ _ hS.out).mono ?_); rintro e w1 ⟨rfl, hS1⟩; replace hS := Hid.intro hS1; clear hS1) | ((with_reducible refine (T_or.out _ _ _ _ hS.out).mono ?_); rintro e w1 ⟨rfl, hS1⟩; replace hS := Hid.intro hS1; clear hS1) | ((with_reducible refine (T_and.out _ _ _ _ hS.out).mono ?_); rintro e w1 ⟨rfl, hS1⟩; replace hS := Hid.intro hS1; clear hS1) | ((with_reducible refine (T_xor.out _ _ _ _ hS.out).mono ?_); rintro e w1 ⟨rfl, hS1⟩; replace hS := Hid.intro hS1; clear hS1) | ((with_reducible refine (T_mov.out _ _ _ _ hS.out).mono ?_); rintro e w1 ⟨rfl, hS1⟩; replace hS := Hid.intro hS1; clear hS1) | ((with_reducible refine (T_mul.out _ _ _ _ hS.out).mono ?_); rintro e w1 ⟨rfl, hS1⟩; replace hS := Hid.intro hS1; clear hS1))
    | (go_at_call 15; first | ((with_reducible refine (o_sub _).mono ?_); rintro e w1 ⟨rfl, hb1⟩; replace hS := Hid.intro (hS.out.below hb1); clear hb1) | ((with_reducible refine (o_lnot _).mono ?_); rintro e w1 ⟨rfl, hb1⟩; replace hS := Hid.intro (hS.out.below hb1); clear hb1) | ((with_reducible refine (o_neg _).mono ?_); rintro e w1 ⟨rfl, hb1⟩; replace hS := Hid.intro (hS.out.below hb1); clear hb1))
    | (go_at_call 16; first | ((with_reducible refine (D_sub.out _ _ hS.out).mono ?_); rintro e w1 ⟨rfl, hS1⟩; replace hS := Hid.intro hS1; clear hS1) | ((with_reducible refine (D_not.out _ _ hS.out).mono ?_); rintro e w1 ⟨rfl, hS1⟩; replace hS := Hid.intro hS1; clear hS1) | ((with_reducible refine (D_neg.out _ _ hS.out).mono ?_); rintro e w1 ⟨rfl, hS1⟩; replace hS := Hid.intro hS1; clear hS1))
    | (go_at_call 26; (with_reducible refine (S1.out _ _ _ _ hS.out).mono ?_); rintro e w1 ⟨rfl, hS1⟩; replace hS := Hid.intro hS1; clear hS1)
    | (go_at_call 11; (with_reducible refine (G.out _ _ _ _ hS.out).mono ?_); rintro e w1 ⟨rfl, hS1⟩; replace hS := Hid.intro hS1; clear hS1)
    | (go_at_call 17; (with_reducible refine (K.out _ _ _ _ hS.out).mono ?_); rintro e w1 ⟨rfl, hS1⟩; replace hS := Hid.intro hS1; clear hS1))
  go_ret
  exact ⟨rfl, hS.out.bel⟩
end Go.Proofs.YtlchefdddgbohaaDoor
