/- set and two: what the laws do with r1 and r2. -/
import Derived.Test.YtlchefdddgbohaaDoorNw2
import Derived.Test.YtlchefdddgbohaaDoorDoLi
import Derived.Test.YtlchefdddgbohaaDoorLim
namespace Go.Proofs.YtlchefdddgbohaaDoor
open Go.ChangeShapes Go.WideShapes Go.ChangeAt Go.RowKit
set_option linter.unusedVariables false
set_option linter.unusedSimpArgs false
set_option maxRecDepth 100000
theorem chk_li (A : Nat) (hA : A < 8) (n : Int) (hn : -2147483648 ≤ n ∧ n ≤ 2147483647) : checkN 38 A 0 n 0 = 0 := by
  have h1 : (shapeN 38).toNat = 10 := by decide +kernel
  have h2 : regB A 0 n 10 = true := by
    unfold regB
    rw [aMax10, bMax10]
    simp
    omega
  have h3 : numB n 0 10 = true := by
    unfold numB
    rw [nMin10, nMax10]
    simp [spansB, hn]
  unfold checkN
  rw [h1, h2, h3]
  simp
section
variable {w0 w w' : World} {p : Nat} {s s' : St}
/-- an instruction and what it does, the word 0 and no memory at hand -/
theorem li_do (hT : Tab w0 ∧ Kin w0) (A : Nat) (hA : A < 8) (n : Int) (hn : -2147483648 ≤ n ∧ n ≤ 2147483647) (W : World) (h : Cpu1 w0 W p s) :
    Calls Tryd.prog 16 #[.pointer (some ⟨p, 0, none⟩), instV 38 A ((0 : Nat) : Int) n 0, .int .i32 0, .slice none 0 0, .int .i64 0] W fun e w' => e = .returned (effV 0 0 0) ∧ Cpu1 w0 w' p { s with r := upd s.r A n } :=
  Do_any hT h (.slice none 0 0) (chk_li A hA n hn) hn fun ks W hK hC => do_li hC hA (by decide) n 0 0 0 (.slice none 0 0) hn
theorem li_op (A n : Int) (W : World) : Calls Tryd.prog 15 #[.string ⟨#[108, 105]⟩, .int .i64 A, .int .i64 0, .int .i32 n] W fun e w' => e = .returned (instV 38 A 0 n 0) ∧ Below W.heap.size W w' := by
  have hf : findN (nm ⟨#[108, 105]⟩) = 38 := by decide +kernel
  have := op_any ⟨#[108, 105]⟩ A 0 n W
  rw [hf] at this
  exact this
theorem set_any (hT : Tab w0 ∧ Kin w0) (h : Cpu1 w0 w p s) (a b : Int) (ha : -2147483648 ≤ a ∧ a ≤ 2147483647) (hb : -2147483648 ≤ b ∧ b ≤ 2147483647) :
    Calls Tryd.prog 26 #[.pointer (some ⟨p, 0, none⟩), .int .i32 a, .int .i32 b] w fun e w' => e = .returned (.tuple #[]) ∧ Cpu1 w0 w' p { s with r := upd (upd s.r 1 a) 2 b } := by
  have hS := Hid.intro h
  have o1 := fun W => li_op 1 a W
  have o2 := fun W => li_op 2 b W
  have d1 := Hid.intro (fun (W : World) (h : Cpu1 w0 W p s) => li_do hT 1 (by decide) a ha W h)
  have d2 := Hid.intro (fun (W : World) (h : Cpu1 w0 W p { s with r := upd s.r 1 a }) => li_do hT 2 (by decide) b hb W h)
  clear h
  go_enter Tryd.func26, Tryd.ntmps26
  go_wp2_with (first
    | (go_at_call 15; first | ((with_reducible refine (o1 _).mono ?_); rintro e w1 ⟨rfl, hb1⟩; replace hS := Hid.intro (hS.out.below hb1); clear hb1 o1) | ((with_reducible refine (o2 _).mono ?_); rintro e w1 ⟨rfl, hb1⟩; replace hS := Hid.intro (hS.out.below hb1); clear hb1 o2))
    | (go_at_call 16; first | (refine (d1.out _ hS.out).mono ?_; rintro e w1 ⟨rfl, hS1⟩; replace hS := Hid.intro hS1; clear hS1 d1) | (refine (d2.out _ hS.out).mono ?_; rintro e w1 ⟨rfl, hS1⟩; replace hS := Hid.intro hS1; clear hS1 d2)))
  go_end0
  exact ⟨rfl, hS.out⟩
end
end Go.Proofs.YtlchefdddgbohaaDoor
