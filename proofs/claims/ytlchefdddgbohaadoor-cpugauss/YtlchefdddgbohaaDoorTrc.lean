/- math.Trunc. -/
import Derived.Test.YtlchefdddgbohaaDoorProg
import Derived.Test.YtlchefdddgbohaaDoorFlM
import Derived.Test.YtlchefdddgbohaaDoorFlN
import Derived.WalkKit
import Derived.WalkLawsBesides
import Derived.ProofKit
import Derived.Below
import GoSem.Extern.MathFloor
namespace Go.Proofs.YtlchefdddgbohaaDoor
open Go.ChangeShapes Go.WideShapes Go.ChangeAt Go.RowKit
set_option linter.unusedVariables false
set_option maxRecDepth 100000
theorem arch_run (x : Nat) (w : World) : (callFunc 67 #[.float .f64 x]).run Tryd.prog w = ((Extern.MathFloor.toIntegral "math.archTrunc" .zero #[.float .f64 x]).run Tryd.prog w).andThen fun v w' => .ok (.value v) w' := by
  have h1 : Extern.findNext Tryd.f67 = none := by kernel_rfl
  have h2 : Extern.find Tryd.f67 = some (Extern.MathFloor.toIntegral "math.archTrunc" .zero) := by kernel_rfl
  have h3 : Tryd.f67.name ≠ "runtime.NumGoroutine" := by
    have : (Tryd.f67.name == "runtime.NumGoroutine") = false := by kernel_rfl
    simpa using this
  have h4 : Tryd.f67.body = none := by kernel_rfl
  unfold callFunc
  simp [go_sem, Tryd.func67, h1, h2, h3, h4]
/-- cut off towards 0 -/
def truncN (x : Nat) : Nat := FloatKind.f64.encode ((FloatKind.f64.decode x).integral .zero)
theorem nan_word (s : Bool) (t : Nat) (h : 0 < t) (h2 : t < 2 ^ 52) : PlainF.IsN (Ieee.double.word s (2047 * 2 ^ 52 + t)) := by
  have d1 : Ieee.double.binade = 2 ^ 52 := by decide
  have d2 : Ieee.double.infRung = 2047 * 2 ^ 52 := by decide
  have d3 : Ieee.double.signWeight = 2 ^ 63 := by decide
  have hw : Ieee.double.word s (2047 * 2 ^ 52 + t) % 2 ^ 63 = 2047 * 2 ^ 52 + t := by
    unfold Ieee.Format.word
    rw [d3]
    cases s <;> simp <;> omega
  unfold PlainF.IsN Ieee.Format.read
  rw [d1, d2, d3]
  simp only [hw]
  rw [if_neg (by omega), if_neg (by omega), if_neg (by omega)]
  exact ⟨_, _, rfl⟩
theorem nan_frac {x : Nat} {s : Bool} {t : Nat} (h : Ieee.double.read x = .nan s t) : 0 < t ∧ t < 2 ^ 52 := by
  have d1 : Ieee.double.binade = 2 ^ 52 := by decide
  have d2 : Ieee.double.infRung = 2047 * 2 ^ 52 := by decide
  have d3 : Ieee.double.signWeight = 2 ^ 63 := by decide
  unfold Ieee.Format.read at h
  rw [d1, d2, d3] at h
  simp only at h
  have hm : x % 2 ^ 63 < 2 ^ 63 := Nat.mod_lt _ (by decide)
  generalize x % 2 ^ 63 = r at *
  split at h
  · cases h
  · split at h
    · cases h
    · split at h
      · cases h
      · cases h
        omega
theorem quiet_nan {x : Nat} {s : Bool} {t : Nat} (h : FloatKind.f64.decode x = .nan s t) : PlainF.IsN (FloatKind.f64.encode (.nan s (FloatKind.f64.format.quiet t))) := by
  obtain ⟨h1, h2⟩ := nan_frac h
  have h3 : t ||| 2 ^ 51 < 2 ^ 52 := Nat.or_lt_two_pow h2 (by decide)
  have h4 : 0 < t ||| 2 ^ 51 := Nat.lt_of_lt_of_le h1 Nat.left_le_or
  have e : FloatKind.f64.encode (.nan s (FloatKind.f64.format.quiet t)) = Ieee.double.word s (2047 * 2 ^ 52 + (t ||| 2 ^ 51)) := by
    have d2 : Ieee.double.infRung = 2047 * 2 ^ 52 := by decide
    have d1 : Ieee.double.binade = 2 ^ 52 := by decide
    show Ieee.double.word s (Ieee.double.infRung + (t ||| 2 ^ 51) % Ieee.double.binade) = _
    rw [d2, d1, Nat.mod_eq_of_lt h3]
  rw [e]
  exact nan_word s (t ||| 2 ^ 51) h4 h3
theorem arch_any (x : Nat) (w : World) : ∃ y w', (callFunc 67 #[.float .f64 x]).run Tryd.prog w = .ok (.value (.float .f64 y)) w' ∧ (w' = w ∨ w' = w.drew) ∧ (PlainF.IsN x → PlainF.IsN y) ∧ (¬ PlainF.IsN x → y = truncN x ∧ w' = w) := by
  rw [arch_run]
  have e : Extern.MathFloor.toIntegral "math.archTrunc" .zero #[.float .f64 x] = (match FloatKind.f64.decode x with
    | .nan s t =>
      if FloatKind.f64.format.quiet t = t then pure (.float .f64 x) else do
      let kept ← choose (.extern "math.Floor,Ceil,Trunc,RoundToEven.signallingNaN kept" 2)
      pure (.float .f64 (if kept == 1 then x else FloatKind.f64.encode (.nan s (FloatKind.f64.format.quiet t))))
    | d => pure (.float .f64 (FloatKind.f64.encode (d.integral .zero)))) := rfl
  rw [e]
  have hT : truncN x = FloatKind.f64.encode ((FloatKind.f64.decode x).integral .zero) := rfl
  have hN : PlainF.IsN x ↔ ∃ s t, FloatKind.f64.decode x = .nan s t := Iff.rfl
  cases hd : FloatKind.f64.decode x with
  | nan s t =>
    have hx : PlainF.IsN x := hN.2 ⟨s, t, hd⟩
    dsimp only
    by_cases hq : FloatKind.f64.format.quiet t = t
    · rw [if_pos hq]
      exact ⟨x, w, rfl, .inl rfl, fun h => h, fun h => absurd hx h⟩
    · rw [if_neg hq]
      refine ⟨_, w.drew, by simp [go_sem, Question.forced]; rfl, .inr rfl, fun _ => ?_, fun h => absurd hx h⟩
      split
      · exact hx
      · exact quiet_nan hd
  | infinity s =>
    refine ⟨truncN x, w, by rw [hT, hd]; rfl, .inl rfl, fun h => ?_, fun h => ⟨rfl, rfl⟩⟩
    exfalso
    obtain ⟨s', t', h'⟩ := hN.1 h
    rw [hd] at h'
    cases h'
  | number s m e =>
    refine ⟨truncN x, w, by rw [hT, hd]; rfl, .inl rfl, fun h => ?_, fun h => ⟨rfl, rfl⟩⟩
    exfalso
    obtain ⟨s', t', h'⟩ := hN.1 h
    rw [hd] at h'
    cases h'
theorem trunc_any (x : Nat) (w : World) : Calls Tryd.prog 66 #[.float .f64 x] w fun e w' => (w' = w ∨ w' = w.drew) ∧ ∃ y, e = .returned (.float .f64 y) ∧ (PlainF.IsN x → PlainF.IsN y) ∧ (¬ PlainF.IsN x → y = truncN x) := by
  obtain ⟨y, w1, hr, hw, h1, h2⟩ := arch_any x w
  go_enter Tryd.func66, Tryd.ntmps66
  go_wp2
  go_ret
  exact ⟨hw, y, rfl, h1, fun h => (h2 h).1⟩
end Go.Proofs.YtlchefdddgbohaaDoor
