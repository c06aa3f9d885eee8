/- The evaluator's calls are calls. -/
import Derived.Test.YtlchefdddgbohaaDoorEvG
noncomputable section
namespace Go.Ev
open Go.RowKit
set_option linter.unusedVariables false
set_option linter.unusedSimpArgs false
def one (ty : Ty) (fr : Fr) (h : Hp) : ResultVar → Option Value
  | .tmp t => fr.get t
  | .cell a t => match fr.get a with
    | some v => o_load ty h t v
    | none => none
def isT : Value → Bool
  | .tuple _ => true
  | _ => false
def ones (ty : Ty) (fr : Fr) (h : Hp) : List ResultVar → Option (List Value)
  | [] => some []
  | r :: l => match one ty fr h r, ones ty fr h l with
    | some v, some vs => bif isT v then none else some (v :: vs)
    | _, _ => none
def resE (ty : Ty) (fn : Func) (fr : Fr) (h : Hp) : Option Value :=
  match ones ty fr h fn.results.toList with
  | some [v] => some v
  | some vs => some (.tuple vs.toArray)
  | none => none
section
variable {P : Program} {ty : Ty} {sz : Nat → Nat} {w0 : World} {Φ : Fx} {R : Rn} {w : World} {h : Hp}
def oneS (tmps : Array Value) : ResultVar → Sem Value
  | .tmp t => pure (tmps.getD t undef)
  | .cell a t => do loadVar t (← asAddr (tmps.getD a undef))
theorem VR.notT {v v' : Value} (hv : VR R v v') (h : isT v = false) : VR0 R v v' := by
  rcases hv with hv | ⟨vs, vs', rfl, rfl, _⟩
  · exact hv
  · cases h
theorem one_is (T : TyOK P ty) (hh : HR sz w0 Φ R w h) {rd : Option Nat} {nt : Nat} {fr : Fr} {a : Act} (hf : FR R rd nt fr a) {r : ResultVar} {v : Value} (ho : one ty fr h r = some v) : ∃ v', VR R v v' ∧ (oneS a.tmps r).run P w = .ok v' w := by
  cases r with
  | tmp t =>
    obtain ⟨v', h1, h2⟩ := hf.2.2.2 t v ho
    exact ⟨v', h2, by simp [oneS, h1]⟩
  | cell c t =>
    unfold one at ho
    dsimp only at ho
    split at ho
    · rename_i p hp
      obtain ⟨p', h1, h2⟩ := hf.2.2.2 c p hp
      obtain ⟨v', h3, h4⟩ := o_load_run (P := P) T hh h2 ho
      refine ⟨v', h3, ?_⟩
      have hpp : ∃ ad, p = .pointer (some ad) := by
        unfold o_load at ho
        split at ho
        · exact ⟨_, rfl⟩
        · cases ho
      obtain ⟨ad, rfl⟩ := hpp
      rw [h2.ptr.1] at h1 h4
      simp [Instr.loadAt, Instr.sureAddr] at h4
      simp [oneS, h1, asAddr, h4]
    · cases ho
theorem ones_is (T : TyOK P ty) (hh : HR sz w0 Φ R w h) {rd : Option Nat} {nt : Nat} {fr : Fr} {a : Act} (hf : FR R rd nt fr a) : ∀ (l : List ResultVar) (vs : List Value), ones ty fr h l = some vs → ∃ vs', A2 (VR0 R) vs vs' ∧ (l.mapM (oneS a.tmps)).run P w = .ok vs' w
  | [], vs, ho => by cases ho; exact ⟨[], ⟨rfl, fun i v hv => by cases hv⟩, rfl⟩
  | r :: l, vs, ho => by
    unfold ones at ho
    split at ho
    · rename_i v us hv hl
      cases ht : isT v with
      | true => rw [ht] at ho; cases ho
      | false =>
        rw [ht] at ho
        cases ho
        obtain ⟨v', h1, h2⟩ := one_is (P := P) T hh hf hv
        obtain ⟨us', h3, h4⟩ := ones_is T hh hf l us hl
        refine ⟨v' :: us', ⟨by simp [h3.1], fun i x hx => ?_⟩, by simp [List.mapM_cons, h2, h4]⟩
        cases i with
        | zero => cases hx; exact ⟨v', rfl, h1.notT ht⟩
        | succ i => exact h3.2 i x hx
    · cases ho
theorem resE_is (T : TyOK P ty) : ResS P sz (resE ty) := by
  intro w0 Φ fn fr h v ho R w rd nt a hh hf
  unfold resE at ho
  have run : ∀ vs, ones ty fr h fn.results.toList = some vs → ∃ vs', A2 (VR0 R) vs vs' ∧ (results fn a.tmps).run P w = .ok (if h : vs'.toArray.size = 1 then vs'.toArray[0] else .tuple vs'.toArray) w := fun vs hv => by
    obtain ⟨vs', h1, h2⟩ := ones_is (P := P) T hh hf _ _ hv
    refine ⟨vs', h1, ?_⟩
    have e : results fn a.tmps = (do let vs ← fn.results.mapM (oneS a.tmps); pure (if h : vs.size = 1 then vs[0] else .tuple vs)) := by
      unfold results
      congr 1
    rw [e, Array.mapM_eq_mapM_toList]
    simp [h2]
  split at ho
  · rename_i u hu
    cases ho
    obtain ⟨vs', h1, h2⟩ := run _ hu
    obtain ⟨v', h3, h4⟩ := list1 h1
    subst h3
    exact ⟨v', h2, .inl h4⟩
  · rename_i vs hne hu
    cases ho
    obtain ⟨vs', h1, h2⟩ := run _ hu
    have hl : vs'.toArray.size ≠ 1 := fun e => by
      have e2 : vs.length = 1 := by rw [h1.1]; simpa using e
      match vs, e2 with
      | [x], _ => exact hne x rfl
    rw [dif_neg hl] at h2
    exact ⟨_, h2, .inr ⟨_, _, rfl, rfl, h1⟩⟩
  · cases ho

/-- a range of which two entries are left or more -/
def nextL (fr : Fr) (h : Hp) (o : Oper) : Option (List (Value × Hp)) := match o.op with
  | .next x b => match ev1 fr x with
    | some i => bif b then none else o_nextL h i
    | none => none
  | _ => none
def operL (ty : Ty) (call : CallF) : OpL := fun fr h o => match oper ty call fr h o with
  | some p => some [p]
  | none => nextL fr h o
theorem operL_is (T : TyOK P ty) (hS : SzOK ty sz) (call : CallF) (hcall : CallS P sz call) : OpSL P sz (operL ty call) := by
  intro w0 Φ fr h o L he R w rd nt a K Q hh hf hK
  unfold operL at he
  cases ho : oper ty call fr h o with
  | some p =>
    rw [ho] at he
    cases he
    exact oper_is T hS call hcall w0 Φ fr h o p.1 p.2 ho R w rd nt a K Q hh hf fun R' w' v' x1 x2 x3 => hK p (List.mem_singleton_self _) R' w' v' x1 x2 x3
  | none =>
    rw [ho] at he
    dsimp only at he
    unfold nextL at he
    split at he
    · rename_i x b hop
      split at he
      · rename_i i hi
        cases b with
        | true => cases he
        | false =>
          dsimp only [cond_false] at he
          obtain ⟨u', h2, h3⟩ := ev1_is hf hi
          obtain ⟨p, hp, R', w', v', x1, x2, x3, x4⟩ := o_nextL_is (P := P) (t := o.type) hh h3 he
          exact wp_val (fun c e => by rw [hop] at e; cases e) (by
            have e : execOp a.eval o = (do pure (Next.value (← Instr.next u' false o.type))) := by unfold execOp; rw [hop]; dsimp only; rw [h2]
            rw [e]
            exact run_v x4) (hK p hp R' w' v' x1 x2 x3)
      · cases he
    · cases he

/-- a function's run by the tables -/
def evF (ty : Ty) (ex : Nat → List Value → Option Value) (fns : Tr Func) : Nat → Nat → Code → Fr → Hp → Outs :=
  ev fns (fun call => operL ty (callX ex call)) (fun call nt ops fr h => drawn ty (oper ty (callX ex call)) nt ops fr h) (resE ty)
def runF (ty : Ty) (ex : Nat → List Value → Option Value) (fns : Tr Func) (n f : Nat) (args : List Value) (h : Hp) : Option (Value × Hp) := callB fns (resE ty) (evF ty ex fns n) (.fn f) args h
theorem runF_is {fns : Tr Func} {ex : Nat → List Value → Option Value} (T : TyOK P ty) (F : FnOK P fns) (X : ExOK P ex) (hm : P.follows .mixedOrders = true) (hS : SzOK ty sz) (n : Nat) : CallS P sz (callB fns (resE ty) (evF ty ex fns n)) :=
  callB_is F (resE_is T) (ev_is F (resE_is T) (fun call hc => operL_is T hS _ (callX_is X hc)) (fun call hc => drawn_is T hS (callX_is X hc) hm) n).1
def noX : Nat → List Value → Option Value := fun _ _ => none
theorem noX_is (P : Program) : ExOK P noX := fun f args v h => by cases h
def R0 : Rn := ⟨fun _ => 0, fun _ => 0, fun _ => False, 0⟩
/-- the tables lie there -/
def TabIs (tab : Tr (List Value)) (w : World) : Prop := ∀ g l, tab.get g = some l → ∃ cur e z, w.heap[g]? = some (.cells cur e z) ∧ A2 (SR R0) l cur.toList
theorem TabIs.none (w : World) : TabIs .lf w := fun g l h => by rw [Tr.get_lf] at h; cases h
theorem HR.init (sz : Nat → Nat) (w : World) (tab : Tr (List Value)) (ht : TabIs tab w) : HR sz w ⟨fun k => k < w.heap.size, tab⟩ R0 w ⟨.lf, 0, tab⟩ :=
  ⟨rfl, by decide, Stay.refl _ _, fun _ hk => hk, fun i hi => hi.elim, fun i b hb => (by rw [Tr.get_lf] at hb; cases hb), fun i j b c hb => (by rw [Tr.get_lf] at hb; cases hb), rfl, fun g l hl => by
    obtain ⟨cur, e, z, h1, h2⟩ := ht g l hl
    exact ⟨(Array.getElem?_eq_some_iff.1 h1).1, cur, e, z, h1, h2⟩⟩
/-- **What a closed call of plain values answers, it answers in every world in which the tables lie, and nothing that was there is changed.** -/
theorem runF_lit {fns : Tr Func} {ex : Nat → List Value → Option Value} (T : TyOK P ty) (F : FnOK P fns) (X : ExOK P ex) (hm : P.follows .mixedOrders = true) {tab : Tr (List Value)} {n f : Nat} {args : List Value} {v : Value} {h' : Hp} (ha : args.all lit = true) (hr : runF ty ex fns n f args ⟨.lf, 0, tab⟩ = some (v, h')) (hv : lit v = true) (hn : v ≠ .slice none 0 0)
    (w : World) (ht : TabIs tab w) {W : Ending → World → Prop} (hW : ∀ w', Below w.heap.size w w' → W (.returned v) w') : Calls P f args.toArray w W := by
  have hS : SzOK ty (fun e => match ty.get e with | some i => i.size | none => 0) := fun e i he => by dsimp only; rw [he]
  have hA : A2 (VR R0) args args.toArray.toList := ⟨by simp, fun i x hx => ⟨x, by simpa using hx, .lit (List.all_eq_true.1 ha x (List.mem_of_getElem? hx))⟩⟩
  exact (runF_is T F X hm hS n w ⟨fun k => k < w.heap.size, tab⟩ (.fn f) args _ v h' hr R0 w args.toArray W (HR.init _ w tab ht) hA fun R' w' v' e hh hv' => by
    rw [hv'.of_lit hv hn]
    exact hW w' ⟨hh.bel.os, hh.bel.tape, hh.bel.output, hh.bel.size, hh.bel.block⟩).2
end
end Go.Ev
