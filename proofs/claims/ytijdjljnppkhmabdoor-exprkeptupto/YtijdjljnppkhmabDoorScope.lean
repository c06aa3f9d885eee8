/- A scope whose run jumps among many labels: what it is to go on from a label ('Lands'), one law a jump, one for the scope; proofs by plain induction. -/
import Derived.Test.YtijdjljnppkhmabDoorRows
import Derived.WalkKit
import Derived.ProofKit
import Derived.OpenShut
import Derived.ShutString
import Derived.ChangeOld
import Derived.Below
import Derived.WalkMore
import Derived.ScopeJumps
namespace Go.Proofs.YtijdjljnppkhmabDoor
open Go.ChangeShapes Go.WideShapes Go.ChangeAt Go.RowKit
set_option linter.unusedVariables false
set_option maxRecDepth 100000

/-- from label l of the scope c on, the run ends by Q -/
def Lands (P : Program) (c : Code) (Q : Exit → Act → World → Prop) (l : Nat) (a : Act) (w : World) : Prop :=
  ∃ rest, findLabel c l = some rest ∧ ∀ (b : Frame) (k : List Item) (cs : List Frame),
    ∃ e a' w', Q e a' w' ∧ Arrives P (lone (b.at a (.code rest :: .inScope c :: k)) cs w) b k cs e a' w'

/-- as Q; by a goto to label l: J l -/
def jumps (J : Nat → Act → World → Prop) (Q : Exit → Act → World → Prop) : Exit → Act → World → Prop
  | .goto l, a, w => J l a w
  | e, a, w => Q e a w

section
variable {P : Program} {Q : Exit → Act → World → Prop} {a : Act} {w : World} {J : Nat → Act → World → Prop}

theorem jumps_goto (l : Nat) (h : J l a w) : jumps J Q (.goto l) a w := h
theorem jumps_normal : jumps J Q .normal a w = Q .normal a w := rfl
theorem jumps_ret : jumps J Q .ret a w = Q .ret a w := rfl

theorem arrives_scope {c rest : Code} (h : rest.wp P (jumps (Lands P c Q) Q) a w) (b : Frame) (k : List Item) (cs : List Frame) :
    ∃ e a' w', Q e a' w' ∧ Arrives P (lone (b.at a (.code rest :: .inScope c :: k)) cs w) b k cs e a' w' := by
  obtain ⟨e, a₁, w₁, hq, harr⟩ := h b (.inScope c :: k) cs
  cases e with
  | normal => exact ⟨.normal, a₁, w₁, hq, Steps.trans harr (.one step_inScope)⟩
  | exit id => exact ⟨.exit id, a₁, w₁, hq, fun k' hk => harr k' (by simp [exitTo, hk])⟩
  | goto l =>
    obtain ⟨rest', hf, hrest⟩ := hq
    obtain ⟨e₂, a₂, w₂, hq₂, harr₂⟩ := hrest b k cs
    have hg : gotoIn l (.inScope c :: k) = some (.code rest' :: .inScope c :: k) := by simp [gotoIn, hf]
    exact ⟨e₂, a₂, w₂, hq₂, .of_steps (harr _ hg) harr₂⟩
  | ret => exact ⟨_, a₁, w₁, hq, harr⟩
  | panic ch => exact ⟨_, a₁, w₁, hq, harr⟩
  | outgrown => exact ⟨_, a₁, w₁, hq, harr⟩

theorem Lands.of {c rest : Code} {l : Nat} (hf : findLabel c l = some rest) (h : rest.wp P (jumps (Lands P c Q) Q) a w) : Lands P c Q l a w :=
  ⟨rest, hf, fun b k cs => arrives_scope h b k cs⟩

theorem wp_scope_lands {c : Code} (h : c.wp P (jumps (Lands P c Q) Q) a w) : (Code.scope c).wp P Q a w := by
  intro b k cs
  obtain ⟨e, a', w', hq, harr⟩ := arrives_scope h b k cs
  exact ⟨e, a', w', hq, .of_steps (.one step_scope) harr⟩

/-- the scope that a function's body is, behind the laying of its results -/
def scopeOf (f : Func) : Code := match f.body with | some (.seq _ (.scope c)) => c | _ => .skip

theorem wp_scope_at {c : Code} (f : Func) (hc : scopeOf f = c) (h : c.wp P (jumps (Lands P (scopeOf f) Q) Q) a w) : (Code.scope c).wp P Q a w := by
  subst hc
  exact wp_scope_lands h
end
end Go.Proofs.YtijdjljnppkhmabDoor
