/- two: what an operation makes of two numbers. -/
import Derived.Test.YtlchefdddgbohaaDoorRg
namespace Go.Proofs.YtlchefdddgbohaaDoor
open Go.ChangeShapes Go.WideShapes Go.ChangeAt Go.RowKit
set_option linter.unusedVariables false
set_option linter.unusedSimpArgs false
set_option maxRecDepth 100000
section
variable {w0 w w' : World} {p : Nat} {x y : Int}
theorem two_mov (hT : Tab w0 ∧ Kin w0) (h : R12 w0 w p x y) (a b : Int) (ha : -2147483648 ≤ a ∧ a ≤ 2147483647) (hb : -2147483648 ≤ b ∧ b ≤ 2147483647) :
    Calls Tryd.prog 25 #[.pointer (some ⟨p, 0, none⟩), .string ⟨#[109, 111, 118]⟩, .int .i32 a, .int .i32 b] w fun e w' => e = .returned (.int .i32 (reckN 13 a b)) ∧ R12 w0 w' p (reckN 13 a b) b := by
  have hS := Hid.intro h
  have c1 := Hid.intro (set_r hT h a b ha hb)
  have o1 := fun W => o_mov W
  have d1 := Hid.intro (fun (W : World) (h : R12 w0 W p a b) => d_mov hT h)
  have g1 := Hid.intro (fun (W : World) (h : R12 w0 W p (reckN 13 a b) b) => reg_r h)
  clear h hS
  go_enter Tryd.func25, Tryd.ntmps25
  go_wp2_with (first
    | (go_at_call 26; (refine c1.out.mono ?_); rintro e w1 ⟨rfl, hS⟩; replace hS := Hid.intro hS)
    | (go_at_call 15; (with_reducible refine (o1 _).mono ?_); rintro e w1 ⟨rfl, hb1⟩; replace hS := Hid.intro (hS.out.below hb1); clear hb1)
    | (go_at_call 16; (refine (d1.out _ hS.out).mono ?_); rintro e w1 ⟨rfl, hS1⟩; replace hS := Hid.intro hS1; clear hS1)
    | (go_at_call 11; (refine (g1.out _ hS.out).mono ?_); rintro e w1 ⟨rfl, hS1⟩; replace hS := Hid.intro hS1; clear hS1))
  go_ret
  exact ⟨rfl, hS.out⟩
theorem two_add (hT : Tab w0 ∧ Kin w0) (h : R12 w0 w p x y) (a b : Int) (ha : -2147483648 ≤ a ∧ a ≤ 2147483647) (hb : -2147483648 ≤ b ∧ b ≤ 2147483647) :
    Calls Tryd.prog 25 #[.pointer (some ⟨p, 0, none⟩), .string ⟨#[97, 100, 100]⟩, .int .i32 a, .int .i32 b] w fun e w' => e = .returned (.int .i32 (reckN 14 a b)) ∧ R12 w0 w' p (reckN 14 a b) b := by
  have hS := Hid.intro h
  have c1 := Hid.intro (set_r hT h a b ha hb)
  have o1 := fun W => o_add W
  have d1 := Hid.intro (fun (W : World) (h : R12 w0 W p a b) => d_add hT h)
  have g1 := Hid.intro (fun (W : World) (h : R12 w0 W p (reckN 14 a b) b) => reg_r h)
  clear h hS
  go_enter Tryd.func25, Tryd.ntmps25
  go_wp2_with (first
    | (go_at_call 26; (refine c1.out.mono ?_); rintro e w1 ⟨rfl, hS⟩; replace hS := Hid.intro hS)
    | (go_at_call 15; (with_reducible refine (o1 _).mono ?_); rintro e w1 ⟨rfl, hb1⟩; replace hS := Hid.intro (hS.out.below hb1); clear hb1)
    | (go_at_call 16; (refine (d1.out _ hS.out).mono ?_); rintro e w1 ⟨rfl, hS1⟩; replace hS := Hid.intro hS1; clear hS1)
    | (go_at_call 11; (refine (g1.out _ hS.out).mono ?_); rintro e w1 ⟨rfl, hS1⟩; replace hS := Hid.intro hS1; clear hS1))
  go_ret
  exact ⟨rfl, hS.out⟩
theorem two_mul (hT : Tab w0 ∧ Kin w0) (h : R12 w0 w p x y) (a b : Int) (ha : -2147483648 ≤ a ∧ a ≤ 2147483647) (hb : -2147483648 ≤ b ∧ b ≤ 2147483647) :
    Calls Tryd.prog 25 #[.pointer (some ⟨p, 0, none⟩), .string ⟨#[109, 117, 108]⟩, .int .i32 a, .int .i32 b] w fun e w' => e = .returned (.int .i32 (reckN 16 a b)) ∧ R12 w0 w' p (reckN 16 a b) b := by
  have hS := Hid.intro h
  have c1 := Hid.intro (set_r hT h a b ha hb)
  have o1 := fun W => o_mul W
  have d1 := Hid.intro (fun (W : World) (h : R12 w0 W p a b) => d_mul hT h)
  have g1 := Hid.intro (fun (W : World) (h : R12 w0 W p (reckN 16 a b) b) => reg_r h)
  clear h hS
  go_enter Tryd.func25, Tryd.ntmps25
  go_wp2_with (first
    | (go_at_call 26; (refine c1.out.mono ?_); rintro e w1 ⟨rfl, hS⟩; replace hS := Hid.intro hS)
    | (go_at_call 15; (with_reducible refine (o1 _).mono ?_); rintro e w1 ⟨rfl, hb1⟩; replace hS := Hid.intro (hS.out.below hb1); clear hb1)
    | (go_at_call 16; (refine (d1.out _ hS.out).mono ?_); rintro e w1 ⟨rfl, hS1⟩; replace hS := Hid.intro hS1; clear hS1)
    | (go_at_call 11; (refine (g1.out _ hS.out).mono ?_); rintro e w1 ⟨rfl, hS1⟩; replace hS := Hid.intro hS1; clear hS1))
  go_ret
  exact ⟨rfl, hS.out⟩
theorem two_land (hT : Tab w0 ∧ Kin w0) (h : R12 w0 w p x y) (a b : Int) (ha : -2147483648 ≤ a ∧ a ≤ 2147483647) (hb : -2147483648 ≤ b ∧ b ≤ 2147483647) :
    Calls Tryd.prog 25 #[.pointer (some ⟨p, 0, none⟩), .string ⟨#[97, 110, 100]⟩, .int .i32 a, .int .i32 b] w fun e w' => e = .returned (.int .i32 (reckN 18 a b)) ∧ R12 w0 w' p (reckN 18 a b) b := by
  have hS := Hid.intro h
  have c1 := Hid.intro (set_r hT h a b ha hb)
  have o1 := fun W => o_land W
  have d1 := Hid.intro (fun (W : World) (h : R12 w0 W p a b) => d_land hT h)
  have g1 := Hid.intro (fun (W : World) (h : R12 w0 W p (reckN 18 a b) b) => reg_r h)
  clear h hS
  go_enter Tryd.func25, Tryd.ntmps25
  go_wp2_with (first
    | (go_at_call 26; (refine c1.out.mono ?_); rintro e w1 ⟨rfl, hS⟩; replace hS := Hid.intro hS)
    | (go_at_call 15; (with_reducible refine (o1 _).mono ?_); rintro e w1 ⟨rfl, hb1⟩; replace hS := Hid.intro (hS.out.below hb1); clear hb1)
    | (go_at_call 16; (refine (d1.out _ hS.out).mono ?_); rintro e w1 ⟨rfl, hS1⟩; replace hS := Hid.intro hS1; clear hS1)
    | (go_at_call 11; (refine (g1.out _ hS.out).mono ?_); rintro e w1 ⟨rfl, hS1⟩; replace hS := Hid.intro hS1; clear hS1))
  go_ret
  exact ⟨rfl, hS.out⟩
theorem two_lor (hT : Tab w0 ∧ Kin w0) (h : R12 w0 w p x y) (a b : Int) (ha : -2147483648 ≤ a ∧ a ≤ 2147483647) (hb : -2147483648 ≤ b ∧ b ≤ 2147483647) :
    Calls Tryd.prog 25 #[.pointer (some ⟨p, 0, none⟩), .string ⟨#[111, 114]⟩, .int .i32 a, .int .i32 b] w fun e w' => e = .returned (.int .i32 (reckN 19 a b)) ∧ R12 w0 w' p (reckN 19 a b) b := by
  have hS := Hid.intro h
  have c1 := Hid.intro (set_r hT h a b ha hb)
  have o1 := fun W => o_lor W
  have d1 := Hid.intro (fun (W : World) (h : R12 w0 W p a b) => d_lor hT h)
  have g1 := Hid.intro (fun (W : World) (h : R12 w0 W p (reckN 19 a b) b) => reg_r h)
  clear h hS
  go_enter Tryd.func25, Tryd.ntmps25
  go_wp2_with (first
    | (go_at_call 26; (refine c1.out.mono ?_); rintro e w1 ⟨rfl, hS⟩; replace hS := Hid.intro hS)
    | (go_at_call 15; (with_reducible refine (o1 _).mono ?_); rintro e w1 ⟨rfl, hb1⟩; replace hS := Hid.intro (hS.out.below hb1); clear hb1)
    | (go_at_call 16; (refine (d1.out _ hS.out).mono ?_); rintro e w1 ⟨rfl, hS1⟩; replace hS := Hid.intro hS1; clear hS1)
    | (go_at_call 11; (refine (g1.out _ hS.out).mono ?_); rintro e w1 ⟨rfl, hS1⟩; replace hS := Hid.intro hS1; clear hS1))
  go_ret
  exact ⟨rfl, hS.out⟩
theorem two_xor (hT : Tab w0 ∧ Kin w0) (h : R12 w0 w p x y) (a b : Int) (ha : -2147483648 ≤ a ∧ a ≤ 2147483647) (hb : -2147483648 ≤ b ∧ b ≤ 2147483647) :
    Calls Tryd.prog 25 #[.pointer (some ⟨p, 0, none⟩), .string ⟨#[120, 111, 114]⟩, .int .i32 a, .int .i32 b] w fun e w' => e = .returned (.int .i32 (reckN 20 a b)) ∧ R12 w0 w' p (reckN 20 a b) b := by
  have hS := Hid.intro h
  have c1 := Hid.intro (set_r hT h a b ha hb)
  have o1 := fun W => o_xor W
  have d1 := Hid.intro (fun (W : World) (h : R12 w0 W p a b) => d_xor hT h)
  have g1 := Hid.intro (fun (W : World) (h : R12 w0 W p (reckN 20 a b) b) => reg_r h)
  clear h hS
  go_enter Tryd.func25, Tryd.ntmps25
  go_wp2_with (first
    | (go_at_call 26; (refine c1.out.mono ?_); rintro e w1 ⟨rfl, hS⟩; replace hS := Hid.intro hS)
    | (go_at_call 15; (with_reducible refine (o1 _).mono ?_); rintro e w1 ⟨rfl, hb1⟩; replace hS := Hid.intro (hS.out.below hb1); clear hb1)
    | (go_at_call 16; (refine (d1.out _ hS.out).mono ?_); rintro e w1 ⟨rfl, hS1⟩; replace hS := Hid.intro hS1; clear hS1)
    | (go_at_call 11; (refine (g1.out _ hS.out).mono ?_); rintro e w1 ⟨rfl, hS1⟩; replace hS := Hid.intro hS1; clear hS1))
  go_ret
  exact ⟨rfl, hS.out⟩
theorem two_lt (hT : Tab w0 ∧ Kin w0) (h : R12 w0 w p x y) (a b : Int) (ha : -2147483648 ≤ a ∧ a ≤ 2147483647) (hb : -2147483648 ≤ b ∧ b ≤ 2147483647) :
    Calls Tryd.prog 25 #[.pointer (some ⟨p, 0, none⟩), .string ⟨#[108, 116]⟩, .int .i32 a, .int .i32 b] w fun e w' => e = .returned (.int .i32 (reckN 23 a b)) ∧ R12 w0 w' p (reckN 23 a b) b := by
  have hS := Hid.intro h
  have c1 := Hid.intro (set_r hT h a b ha hb)
  have o1 := fun W => o_lt W
  have d1 := Hid.intro (fun (W : World) (h : R12 w0 W p a b) => d_lt hT h)
  have g1 := Hid.intro (fun (W : World) (h : R12 w0 W p (reckN 23 a b) b) => reg_r h)
  clear h hS
  go_enter Tryd.func25, Tryd.ntmps25
  go_wp2_with (first
    | (go_at_call 26; (refine c1.out.mono ?_); rintro e w1 ⟨rfl, hS⟩; replace hS := Hid.intro hS)
    | (go_at_call 15; (with_reducible refine (o1 _).mono ?_); rintro e w1 ⟨rfl, hb1⟩; replace hS := Hid.intro (hS.out.below hb1); clear hb1)
    | (go_at_call 16; (refine (d1.out _ hS.out).mono ?_); rintro e w1 ⟨rfl, hS1⟩; replace hS := Hid.intro hS1; clear hS1)
    | (go_at_call 11; (refine (g1.out _ hS.out).mono ?_); rintro e w1 ⟨rfl, hS1⟩; replace hS := Hid.intro hS1; clear hS1))
  go_ret
  exact ⟨rfl, hS.out⟩
theorem two_eq (hT : Tab w0 ∧ Kin w0) (h : R12 w0 w p x y) (a b : Int) (ha : -2147483648 ≤ a ∧ a ≤ 2147483647) (hb : -2147483648 ≤ b ∧ b ≤ 2147483647) :
    Calls Tryd.prog 25 #[.pointer (some ⟨p, 0, none⟩), .string ⟨#[101, 113]⟩, .int .i32 a, .int .i32 b] w fun e w' => e = .returned (.int .i32 (reckN 24 a b)) ∧ R12 w0 w' p (reckN 24 a b) b := by
  have hS := Hid.intro h
  have c1 := Hid.intro (set_r hT h a b ha hb)
  have o1 := fun W => o_eq W
  have d1 := Hid.intro (fun (W : World) (h : R12 w0 W p a b) => d_eq hT h)
  have g1 := Hid.intro (fun (W : World) (h : R12 w0 W p (reckN 24 a b) b) => reg_r h)
  clear h hS
  go_enter Tryd.func25, Tryd.ntmps25
  go_wp2_with (first
    | (go_at_call 26; (refine c1.out.mono ?_); rintro e w1 ⟨rfl, hS⟩; replace hS := Hid.intro hS)
    | (go_at_call 15; (with_reducible refine (o1 _).mono ?_); rintro e w1 ⟨rfl, hb1⟩; replace hS := Hid.intro (hS.out.below hb1); clear hb1)
    | (go_at_call 16; (refine (d1.out _ hS.out).mono ?_); rintro e w1 ⟨rfl, hS1⟩; replace hS := Hid.intro hS1; clear hS1)
    | (go_at_call 11; (refine (g1.out _ hS.out).mono ?_); rintro e w1 ⟨rfl, hS1⟩; replace hS := Hid.intro hS1; clear hS1))
  go_ret
  exact ⟨rfl, hS.out⟩
end
end Go.Proofs.YtlchefdddgbohaaDoor
