/- Complex numbers: sums and differences. -/
import Derived.Test.YtlchefdddgbohaaDoorCl
import GoSem.Op.Complex
namespace Go.Proofs.YtlchefdddgbohaaDoor
open Go.ChangeShapes Go.WideShapes Go.ChangeAt Go.RowKit
set_option linter.unusedVariables false
set_option linter.unusedSimpArgs false
set_option maxRecDepth 100000
open PlainF
/-- the same memory -/
def SameH (w w' : World) : Prop := w'.heap = w.heap ∧ Below w.heap.size w w'
theorem SameH.refl (w : World) : SameH w w := ⟨rfl, Below.refl _ _⟩
theorem SameH.drew (w : World) : SameH w w.drew := ⟨rfl, (Below.refl _ _).drew⟩
theorem SameH.trans {a b c : World} (h : SameH a b) (k : SameH b c) : SameH a c := ⟨k.1.trans h.1, h.2.trans (k.2.mono h.2.size)⟩
theorem SameH.cell {w w' : World} (h : SameH w w') {a : Addr} {v : Value} (k : w.cell? a = some v) : w'.cell? a = some v := by
  rw [← k]
  unfold World.cell?
  rw [h.1]
theorem store_cx {w : World} {p k : Nat} {u : Value} (x y : Nat) (h : w.cell? ⟨p, k, none⟩ = some u) (f : w.frozen? ⟨p, k, none⟩ = false) : (store ⟨p, k, none⟩ (.complex .f64 x y)).run Tryd.prog w = .ok () (w.setCell ⟨p, k, none⟩ (.complex .f64 x y)) := by
  rw [run_store Tryd.prog w _ _ _ rfl]
  simp [go_sem, h, f]
theorem near_lt (n : Int) : FloatKind.f64.nearest n < 2 ^ 64 := write_word (.number (n < 0) n.natAbs 0)
theorem neg_lt {x : Nat} (h : x < 2 ^ 64) : Op.negFloat .f64 x < 2 ^ 64 := (read_neg x h).2
theorem arith_add (a c : Nat) (w : World) : ∃ r w', (Op.Complex.arith .add .f64 a c).run Tryd.prog w = .ok r w' ∧ SameH w w' ∧ Ans (Ieee.double.add a c) r ∧ (Ieee.double.add a c = none → r < 2 ^ 64) := by
  cases h : Ieee.double.add a c with
  | some r =>
    have h' : FloatKind.f64.format.add a c = some r := h
    exact ⟨r, w, by unfold Op.Complex.arith Op.floatArith; simp [go_sem, h'], .refl w, rfl, fun h => by cases h⟩
  | none =>
    have h' : FloatKind.f64.format.add a c = none := h
    refine ⟨_, w.drew, by unfold Op.Complex.arith Op.floatArith; simp [go_sem, h']; rfl, .drew w, ?_, fun _ => ?_⟩
    · exact (nan_drawn _).1
    · exact (nan_drawn _).2
theorem arith_sub (a c : Nat) (w : World) : ∃ r w', (Op.Complex.arith .sub .f64 a c).run Tryd.prog w = .ok r w' ∧ SameH w w' ∧ Ans (Ieee.double.sub a c) r ∧ (Ieee.double.sub a c = none → r < 2 ^ 64) := by
  cases h : Ieee.double.sub a c with
  | some r =>
    have h' : FloatKind.f64.format.sub a c = some r := h
    exact ⟨r, w, by unfold Op.Complex.arith Op.floatArith; simp [go_sem, h'], .refl w, rfl, fun h => by cases h⟩
  | none =>
    have h' : FloatKind.f64.format.sub a c = none := h
    refine ⟨_, w.drew, by unfold Op.Complex.arith Op.floatArith; simp [go_sem, h']; rfl, .drew w, ?_, fun _ => ?_⟩
    · exact (nan_drawn _).1
    · exact (nan_drawn _).2
theorem word_lt {o : Option Nat} {r : Nat} (h : Ans o r) (hn : o = none → r < 2 ^ 64) (hs : ∀ x, o = some x → x < 2 ^ 64) : r < 2 ^ 64 := by
  cases o with
  | none => exact hn rfl
  | some x => exact (show r = x from h) ▸ hs x rfl
theorem run_addC (a b c d : Nat) (w : World) : ∃ x y w', (binOp .add 49 (.complex .f64 a b) (.complex .f64 c d)).run Tryd.prog w = .ok (.complex .f64 x y) w' ∧ SameH w w' ∧ Ans (Ieee.double.add a c) x ∧ Ans (Ieee.double.add b d) y ∧ (Ieee.double.add a c = none → x < 2 ^ 64) ∧ (Ieee.double.add b d = none → y < 2 ^ 64) := by
  obtain ⟨x, w1, h1, s1, a1, n1⟩ := arith_add a c w
  obtain ⟨y, w2, h2, s2, a2, n2⟩ := arith_add b d w1
  have e : (binOp .add 49 (.complex .f64 a b) (.complex .f64 c d)).run Tryd.prog w = (Op.complexOp .add .f64 a b c d).run Tryd.prog w := by kernel_rfl
  refine ⟨x, y, w2, ?_, s1.trans s2, a1, a2, n1, n2⟩
  rw [e]
  unfold Op.complexOp
  simp [go_sem, h1, h2]
theorem run_subC (a b c d : Nat) (w : World) : ∃ x y w', (binOp .sub 49 (.complex .f64 a b) (.complex .f64 c d)).run Tryd.prog w = .ok (.complex .f64 x y) w' ∧ SameH w w' ∧ Ans (Ieee.double.sub a c) x ∧ Ans (Ieee.double.sub b d) y ∧ (Ieee.double.sub a c = none → x < 2 ^ 64) ∧ (Ieee.double.sub b d = none → y < 2 ^ 64) := by
  obtain ⟨x, w1, h1, s1, a1, n1⟩ := arith_sub a c w
  obtain ⟨y, w2, h2, s2, a2, n2⟩ := arith_sub b d w1
  have e : (binOp .sub 49 (.complex .f64 a b) (.complex .f64 c d)).run Tryd.prog w = (Op.complexOp .sub .f64 a b c d).run Tryd.prog w := by kernel_rfl
  refine ⟨x, y, w2, ?_, s1.trans s2, a1, a2, n1, n2⟩
  rw [e]
  unfold Op.complexOp
  simp [go_sem, h1, h2]
end Go.Proofs.YtlchefdddgbohaaDoor
