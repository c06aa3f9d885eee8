/- The function whose word is known to the evaluator. -/
import Derived.Test.YtlchefdddgbohaaDoorEn
import Derived.Test.YtlchefdddgbohaaDoorTrc
namespace Go.Proofs.YtlchefdddgbohaaDoor
open Go.ChangeShapes Go.WideShapes Go.ChangeAt Go.RowKit Go.Ev
set_option linter.unusedVariables false
set_option maxRecDepth 1000000
def EX : Nat → List Value → Option Value := fun f l => bif Nat.beq f 66 then (match l with | [.float .f64 x] => (match FloatKind.f64.decode x with | .nan _ _ => none | d => some (.float .f64 (FloatKind.f64.encode (d.integral .zero)))) | _ => none) else none
theorem exOK : Go.Ev.ExOK Tryd.prog EX := by
  intro f args v h
  unfold EX at h
  cases hf : Nat.beq f 66 with
  | false => rw [hf] at h; cases h
  | true =>
    rw [hf] at h
    dsimp only [cond_true] at h
    have e := Nat.eq_of_beq_eq_true hf
    subst e
    split at h
    · rename_i x
      have key : ¬ PlainF.IsN x → v = .float .f64 (truncN x) → (([Value.float .f64 x].all flat2 = true ∧ flat2 v = true ∧ Callable Tryd.prog 66 ∧ ∀ w, Calls Tryd.prog 66 [Value.float .f64 x].toArray w fun e w' => e = .returned v ∧ Below w.heap.size w w')) := fun hn hv => by
        subst hv
        refine ⟨rfl, rfl, ⟨_, Tryd.func66, by decide +kernel, by decide +kernel⟩, fun w => (trunc_any x w).mono fun e w' ⟨hw, y, he, _, h2⟩ => ⟨by rw [he, h2 hn], ?_⟩⟩
        rcases hw with rfl | rfl
        · exact Below.refl _ _
        · exact (Below.refl _ _).drew
      have hN : PlainF.IsN x ↔ ∃ s t, FloatKind.f64.decode x = .nan s t := Iff.rfl
      split at h
      · cases h
      · rename_i d hd
        cases h
        exact key (fun hx => by obtain ⟨s, t, e⟩ := hN.1 hx; exact hd s t e) rfl
    · cases h
/-- known(): true -/
def isB (b : Bool) : Option (Value × Hp) → Bool
  | some (.bool c, _) => b == c
  | _ => false
theorem runB {b : Bool} {r : Option (Value × Hp)} (h : isB b r = true) : ∃ h', r = some (.bool b, h') := by
  unfold isB at h
  split at h
  · rename_i c h'
    rw [beq_iff_eq] at h
    subst h
    exact ⟨h', rfl⟩
  · cases h
end Go.Proofs.YtlchefdddgbohaaDoor
