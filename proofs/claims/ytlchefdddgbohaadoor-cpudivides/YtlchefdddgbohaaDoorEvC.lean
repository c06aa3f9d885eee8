/- The evaluator's control, and that it is sound where its operations are. -/
import Derived.Test.YtlchefdddgbohaaDoorEvW
import Derived.LoopNIn
import Derived.OrdersIn
import Derived.RangeFuncLeaves
import Derived.RangeFuncRecord
import Derived.RangeFuncSeq
import Derived.ScopeJumps
noncomputable section
namespace Go.Ev
open Go.RowKit
set_option linter.unusedVariables false

inductive Ex where
  | normal | exit (id : Nat) | goto (l : Nat) | ret
def Ex.to : Ex → Exit
  | .normal => .normal
  | .exit i => .exit i
  | .goto i => .goto i
  | .ret => .ret
/-- what is called: a function, or the body of a range over a function -/
inductive Ce where
  | fn (f : Nat) | yl (i : Nat)
abbrev CallF := Ce → List Value → Hp → Option (Value × Hp)
abbrev FW (rd : Option Nat) : Fence := { Fence.wide with round := rd }

def wantd (ops : Array Oper) (fr : Fr) (o : Oper) : Option Bool :=
  match o.guard with
  | none => some true
  | some (j, want) => match ops.toList[j]? with
    | some p => match p.dst with
      | some d => match fr.get d with
        | some (.bool b) => some (b == want)
        | some (.tuple _) => some false
        | _ => none
      | none => none
    | none => none
def putd (nt : Nat) (fr : Fr) (dst : Option Nat) (v : Value) : Option Fr :=
  match dst with
  | some d => bif Nat.blt d nt then some (fr.put 40 d v) else none
  | none => some fr
/-- one by one, all of them -/
def bindL {α β : Type} (f : α → Option (List β)) : List α → Option (List β)
  | [] => some []
  | [x] => f x
  | x :: y :: l => match f x, bindL f (y :: l) with
    | some a, some b => some (a ++ b)
    | _, _ => none
theorem bindL_is {α β : Type} {f : α → Option (List β)} : ∀ {l : List α} {m : List β}, bindL f l = some m → ∀ x ∈ l, ∃ a, f x = some a ∧ ∀ y ∈ a, y ∈ m
  | [], m, h, x, hx => by cases hx
  | [z], m, h, x, hx => by
    cases List.mem_singleton.1 hx
    exact ⟨m, h, fun y hy => hy⟩
  | z :: y :: l, m, h, x, hx => by
    rw [bindL] at h
    split at h
    · rename_i a b ha hb
      cases h
      rcases List.mem_cons.1 hx with rfl | hx
      · exact ⟨a, ha, fun y hy => List.mem_append_left _ hy⟩
      · obtain ⟨c, h1, h2⟩ := bindL_is hb x hx
        exact ⟨c, h1, fun y hy => List.mem_append_right _ (h2 y hy)⟩
    · cases h
abbrev OpL := Fr → Hp → Oper → Option (List (Value × Hp))
abbrev Outs := Option (List (Ex × Fr × Hp))
def opsL (op : OpL) (nt : Nat) (all : Array Oper) : List Oper → Fr → Hp → Option (List (Fr × Hp))
  | [], fr, h => some [(fr, h)]
  | o :: r, fr, h => match wantd all fr o with
    | some true => match op fr h o with
      | some L => bindL (fun p => match putd nt fr o.dst p.1 with
        | some fr' => opsL op nt all r fr' p.2
        | none => none) L
      | none => none
    | some false => match putd nt fr o.dst undef with
      | some fr' => opsL op nt all r fr' h
      | none => none
    | none => none
/-- the places of deferred calls are shut -/
def closeM : List Nat → Hp → Option Hp
  | [], h => some h
  | i :: l, h => match h.heap.get i with
    | some .defd => closeM l ⟨h.heap.del i, h.next, h.tab⟩
    | _ => none
def setP : List Nat → List Value → Tr Value → Tr Value
  | p :: ps, v :: vs, t => setP ps vs (t.put 40 p v)
  | _, _, t => t
def jumpOf : Ex → Option Code
  | .normal => none
  | .exit i => some (.exit i)
  | .goto l => some (.goto l)
  | .ret => some .ret
def stOf : Ex → LoopState
  | .normal => .ready
  | _ => .done
def yesOf : Ex → Bool
  | .normal => true
  | _ => false
def scopeF (evn : Code → Fr → Hp → Outs) (c : Code) : Nat → Code → Fr → Hp → Outs
  | 0, _, _, _ => none
  | m + 1, x, fr, h => match evn x fr h with
    | some L => bindL (fun p => match p with
      | (.goto l, fr', h') => match findLabel c l with
        | some rest => scopeF evn c m rest fr' h'
        | none => some [(.goto l, fr', h')]
      | p => some [p]) L
    | none => none
def isBusy : LoopState → Bool
  | .busy => true
  | _ => false
def eqVH (x y : Value × Hp) : Bool := beqV x.1 y.1 && eqHp x.2 y.2
theorem eqVH_eq {x y : Value × Hp} (h : eqVH x y = true) : x = y := by
  unfold eqVH at h
  rw [Bool.and_eq_true] at h
  exact Prod.ext (beqV_eq h.1) (eqHp_eq h.2)
def same2 (x : Value × Hp) (l : List (Value × Hp)) (ks : List Nat) : Option (Value × Hp) := bif l.all (fun z => eqVH (x.1, delA ks x.2) (z.1, delA ks z.2)) then some (x.1, delA ks x.2) else none
/-- they come to the same, but for names that are given up -/
def same1 : List (Value × Hp) → Option (Value × Hp)
  | [] => none
  | [x] => some x
  | x :: y :: l => same2 x (y :: l) (diffT x.2.heap y.2.heap id)
theorem same1_is {x : Value × Hp} : ∀ {l : List (Value × Hp)}, same1 l = some x → ∀ y ∈ l, ∃ ks, (y.1, delA ks y.2) = x
  | [], h, y, hy => by cases hy
  | [z], h, y, hy => by
    cases h
    cases List.mem_singleton.1 hy
    exact ⟨[], rfl⟩
  | z :: u :: l, h, y, hy => by
    unfold same1 at h
    dsimp only at h
    generalize diffT z.2.heap u.2.heap id = ks at h
    refine ⟨ks, ?_⟩
    unfold same2 at h
    cases hb : (u :: l).all (fun q => eqVH (z.1, delA ks z.2) (q.1, delA ks q.2)) with
    | false => rw [hb] at h; cases h
    | true =>
      rw [hb] at h
      cases h
      rcases List.mem_cons.1 hy with rfl | hy
      · rfl
      · exact (eqVH_eq (List.all_eq_true.1 hb y hy)).symm
def seqK (k : Fr → Hp → Outs) (p : Ex × Fr × Hp) : Outs := match p with
  | (.normal, fr', h') => k fr' h'
  | p => some [p]
def blockK (id : Nat) (p : Ex × Fr × Hp) : Ex × Fr × Hp := match p with
  | (.exit i, q) => bif Nat.beq i id then (.normal, q) else (.exit i, q)
  | p => p
def backL (res : Func → Fr → Hp → Option Value) (fn : Func) (p : Ex × Fr × Hp) : Option (List (Value × Hp)) := match p with
  | (.exit _, _) => none
  | (.goto _, _) => none
  | (_, fr', h') => match closeM (fr'.ms.getD []) h' with
    | some h1 => match res fn fr' h1 with
      | some v => some [(v, h1)]
      | none => none
    | none => none
section
variable (fns : Tr Func) (op : CallF → OpL) (dr : CallF → Nat → Array Oper → Fr → Hp → Option (Fr × Hp)) (res : Func → Fr → Hp → Option Value)
def callB (evn : Nat → Code → Fr → Hp → Outs) : CallF := fun c args h => match c with
  | .fn f => match fns.get f with
    | some fn => match fn.body with
      | some b => bif Nat.ble args.length fn.ntmps && Nat.blt fn.ntmps 549755813888 then
          match evn fn.ntmps b ⟨Tr.ofL args 0 .lf, some []⟩ h with
          | some L => match bindL (backL res fn) L with
            | some M => same1 M
            | none => none
          | none => none
        else none
      | none => none
    | none => none
  | .yl i => match h.heap.get i with
    | some (.loop .ready pend t nt ps as bd) => bif Nat.beq args.length ps.size && ps.toList.all (Nat.blt · nt) then
        match evn nt as ⟨setP ps.toList args t, none⟩ h with
        | some [(.normal, fr1, h1)] => match h1.heap.get i with
          | some (.loop .ready pend1 t1 nt1 ps1 as1 bd1) => match evn nt bd fr1 ⟨h1.heap.put 40 i (.loop .busy pend1 t1 nt1 ps1 as1 bd1), h1.next, h1.tab⟩ with
            | some [(e, fr2, h2)] => match h2.heap.get i with
              | some (.loop st2 pend2 t2 nt2 ps2 as2 bd2) => some (.bool (yesOf e), ⟨h2.heap.put 40 i (.loop (stOf e) (jumpOf e) t2 nt2 ps2 as2 bd2), h2.next, h2.tab⟩)
              | _ => none
            | _ => none
          | _ => none
        | _ => none
      else none
    | _ => none
def ev : Nat → Nat → Code → Fr → Hp → Outs
  | 0, _, _, _, _ => none
  | n + 1, nt, c, fr, h => match c with
    | .skip => some [(.normal, fr, h)]
    | .label _ => some [(.normal, fr, h)]
    | .exit i => some [(.exit i, fr, h)]
    | .goto i => some [(.goto i, fr, h)]
    | .ret => some [(.ret, fr, h)]
    | .region _ ops draw => bif draw then
        match dr (callB fns res (ev n)) nt ops fr h with
        | some (fr', h') => some [(.normal, fr', h')]
        | none => none
      else
      match opsL (op (callB fns res (ev n))) nt ops ops.toList fr h with
      | some L => some (L.map fun p => (.normal, p.1, p.2))
      | none => none
    | .seq a b => match ev n nt a fr h with
      | some L => bindL (seqK (ev n nt b)) L
      | none => none
    | .cond x a b => match ev1 fr x with
      | some (.bool t) => bif t then ev n nt a fr h else ev n nt b fr h
      | _ => none
    | .block id b => match ev n nt b fr h with
      | some L => some (L.map (blockK id))
      | none => none
    | .loop b => match ev n nt b fr h with
      | some L => bindL (seqK (ev n nt (.loop b))) L
      | none => none
    | .scope c => bif fr.ms.isSome then scopeF (ev n nt) c n c fr h else none
    | .rangeFunc g ps as bd => match fr.ms, ev1 fr g with
      | some ms, some (.func (.func gf) f cs) => bif f.isEmpty && Nat.blt h.next 400000000 then
          match callB fns res (ev n) (.fn gf) (.func (.yield (h.next + 1)) #[] #[] :: cs.toList) ⟨(h.heap.put 40 h.next .defd).put 40 (h.next + 1) (.loop .ready none fr.t nt ps as bd), h.next + 2, h.tab⟩ with
          | some (_, h2) => match h2.heap.get (h.next + 1) with
            | some (.loop st pend _ _ _ _ _) => bif isBusy st then none else
              match pend with
              | none => some [(.normal, ⟨fr.t, some (h.next :: ms)⟩, ⟨h2.heap.del (h.next + 1), h2.next, h2.tab⟩)]
              | some c => ev n nt c ⟨fr.t, some (h.next :: ms)⟩ ⟨h2.heap.del (h.next + 1), h2.next, h2.tab⟩
            | _ => none
          | none => none
        else none
      | _, _ => none
    | _ => none
end

theorem VR.bool {R : Rn} {b : Bool} {v : Value} (h : VR R (.bool b) v) : v = .bool b := by
  rcases h with (h | ⟨_, _, h, _⟩) | ⟨_, _, h, _⟩
  · cases h; rfl
  · cases h
  · cases h
theorem VR.tuple {R : Rn} {x : Array Value} {v : Value} (h : VR R (.tuple x) v) : ∃ y, v = .tuple y := by
  rcases h with (h | ⟨_, _, h, _⟩) | ⟨_, y, h, h2, _⟩
  · cases h; exact ⟨x, rfl⟩
  · cases h
  · exact ⟨y, h2⟩
theorem wantd_is {R : Rn} {rd : Option Nat} {nt : Nat} {fr : Fr} {a : Act} (h : FR R rd nt fr a) {ops : Array Oper} {o : Oper} {b : Bool} (hw : wantd ops fr o = some b) :
    Region.wanted o (yielded ops a.tmps) = b := by
  unfold wantd at hw
  unfold Region.wanted
  cases hg : o.guard with
  | none => rw [hg] at hw; cases hw; rfl
  | some p =>
    obtain ⟨j, want⟩ := p
    rw [hg] at hw
    dsimp only at hw ⊢
    rw [Array.getElem?_toList] at hw
    unfold yielded
    cases ho : ops[j]? with
    | none => rw [ho] at hw; cases hw
    | some p =>
      rw [ho] at hw
      dsimp only at hw
      cases hd : p.dst with
      | none => rw [hd] at hw; cases hw
      | some d =>
        rw [hd] at hw
        dsimp only at hw
        cases hf : fr.get d with
        | none => rw [hf] at hw; cases hw
        | some v =>
          rw [hf] at hw
          obtain ⟨v', h1, h2⟩ := h.2.2.2 d v hf
          simp only [Option.bind_some, hd, h1]
          cases v <;> first | (cases hw; done) | skip
          case bool c =>
            cases hw
            rw [h2.bool]
            cases c <;> cases want <;> rfl
          case tuple x =>
            cases hw
            obtain ⟨y, rfl⟩ := h2.tuple
            rfl
theorem putd_is {R : Rn} {rd : Option Nat} {nt : Nat} {fr fr' : Fr} {a : Act} (h : FR R rd nt fr a) {d : Option Nat} {v v' : Value} (hv : VR R v v') (hp : putd nt fr d v = some fr') : FR R rd nt fr' (a.put d v') := by
  unfold putd at hp
  cases d with
  | none => cases hp; exact h
  | some d =>
    dsimp only at hp
    cases hb : Nat.blt d nt with
    | false => rw [hb] at hp; cases hp
    | true =>
      rw [hb] at hp
      cases hp
      exact h.put (by simpa [Nat.blt_eq] using hb) hv

section
variable (P : Program) (sz : Nat → Nat)
/-- an operation's word holds -/
def OpS (op : Fr → Hp → Oper → Option (Value × Hp)) : Prop :=
  ∀ w0 Φ fr h o v h', op fr h o = some (v, h') → ∀ (R : Rn) (w : World) (rd : Option Nat) (nt : Nat) (a : Act) (K : Act → World → Prop) (Q : Exit → Act → World → Prop), HR sz w0 Φ R w h → FR R rd nt fr a →
    (∀ R' w' v', Ext R R' → HR sz w0 Φ R' w' h' → VR R' v v' → K (a.put o.dst v') w') → o.wpIn (FW rd) 0 P a w K Q
def OpSL (op : OpL) : Prop :=
  ∀ w0 Φ fr h o L, op fr h o = some L → ∀ (R : Rn) (w : World) (rd : Option Nat) (nt : Nat) (a : Act) (K : Act → World → Prop) (Q : Exit → Act → World → Prop), HR sz w0 Φ R w h → FR R rd nt fr a →
    (∀ p ∈ L, ∀ R' w' v', Ext R R' → HR sz w0 Φ R' w' p.2 → VR R' p.1 v' → K (a.put o.dst v') w') → o.wpIn (FW rd) 0 P a w K Q
/-- a function of our own -/
def Callable (P : Program) (f : Nat) : Prop := ∃ fn, P.funcs[f]? = some fn ∧ (fn.name == "runtime.NumGoroutine") = false ∧ fn.body.isNone = false
def FnOK (P : Program) (fns : Tr Func) : Prop := ∀ f fn, fns.get f = some fn → P.funcs[f]? = some fn ∧ (fn.name == "runtime.NumGoroutine") = false
def CeS (P : Program) (R : Rn) (w : World) (args' : Array Value) (W : Ending → World → Prop) : Ce → Prop
  | .fn f => Callable P f ∧ Calls P f args' w W
  | .yl i => R.D i ∧ YieldAt Fence.wide 0 P (R.ρ i) args' w W
def CallS (call : CallF) : Prop :=
  ∀ w0 Φ c args h v h', call c args h = some (v, h') → ∀ (R : Rn) (w : World) (args' : Array Value) (W : Ending → World → Prop), HR sz w0 Φ R w h → A2 (VR R) args args'.toList →
    (∀ R' w' v', Ext R R' → HR sz w0 Φ R' w' h' → VR R' v v' → W (.returned v') w') → CeS P R w args' W c
def DrS (dr : Nat → Array Oper → Fr → Hp → Option (Fr × Hp)) : Prop :=
  ∀ w0 Φ nt ops fr h fr' h', dr nt ops fr h = some (fr', h') → ∀ (id : Nat) (R : Rn) (rd : Option Nat) (w : World) (a : Act) (Q : Exit → Act → World → Prop), HR sz w0 Φ R w h → FR R rd nt fr a →
    (∀ R' w' a', Ext R R' → HR sz w0 Φ R' w' h' → FR R' rd nt fr' a' → Q .normal a' w') → (Code.region id ops true).wpIn (FW rd) 0 P Q a w
def ResS (res : Func → Fr → Hp → Option Value) : Prop :=
  ∀ w0 Φ fn fr h v, res fn fr h = some v → ∀ (R : Rn) (w : World) (rd : Option Nat) (nt : Nat) (a : Act), HR sz w0 Φ R w h → FR R rd nt fr a → ∃ v', (results fn a.tmps).run P w = .ok v' w ∧ VR R v v'
def EvS (evn : Nat → Code → Fr → Hp → Outs) : Prop :=
  ∀ w0 Φ nt c fr h L, evn nt c fr h = some L → ∀ (R : Rn) (rd : Option Nat) (w : World) (a : Act) (Q : Exit → Act → World → Prop), HR sz w0 Φ R w h → FR R rd nt fr a →
    (∀ p ∈ L, ∀ R' w' a', Ext R R' → HR sz w0 Φ R' w' p.2.2 → FR R' rd nt p.2.1 a' → Q p.1.to a' w') → c.wpIn (FW rd) 0 P Q a w
end

section
variable {P : Program} {sz : Nat → Nat}
theorem opsL_is {op : OpL} (hop : OpSL P sz op) {w0 : World} {Φ : Fx} {rd : Option Nat} {nt : Nat} {ops : Array Oper} {Q : Exit → Act → World → Prop} :
    ∀ (l : List Oper) (k : Nat), (∀ i, l[i]? = ops[k + i]?) → ∀ (fr : Fr) (h : Hp) (R : Rn) (w : World) (a : Act) (L : List (Fr × Hp)), opsL op nt ops l fr h = some L → HR sz w0 Φ R w h → FR R rd nt fr a →
      (∀ p ∈ L, ∀ R' w' a', Ext R R' → HR sz w0 Φ R' w' p.2 → FR R' rd nt p.1 a' → Q .normal a' w') → wpOpsIn (FW rd) 0 P ops Q (List.range' k l.length) a w
  | [], k, _, fr, h, R, w, a, L, he, hh, hf, hq => by
    cases he
    exact hq _ (List.mem_singleton_self _) R w a (.refl R) hh hf
  | o :: r, k, hl, fr, h, R, w, a, L, he, hh, hf, hq => by
    have h0 : ops[k]? = some o := (hl 0).symm
    have hr : ∀ i, r[i]? = ops[k + 1 + i]? := fun i => by
      have := hl (i + 1)
      rw [show k + 1 + i = k + (i + 1) by omega, ← this]
      rfl
    rw [show List.range' k (o :: r).length = k :: List.range' (k + 1) r.length from rfl]
    simp only [wpOpsIn, h0]
    unfold opsL at he
    cases hw : wantd ops fr o with
    | none => rw [hw] at he; cases he
    | some b =>
      rw [hw] at he
      rw [wantd_is hf hw]
      cases b with
      | true =>
        dsimp only at he
        rw [if_pos rfl]
        cases ho : op fr h o with
        | none => rw [ho] at he; cases he
        | some M =>
          rw [ho] at he
          dsimp only at he
          refine hop w0 Φ fr h o M ho R w rd nt a _ Q hh hf fun p hp R1 w1 v1 e1 hh1 hv1 => ?_
          obtain ⟨N, hN, hsub⟩ := bindL_is he p hp
          cases hpd : putd nt fr o.dst p.1 with
          | none => rw [hpd] at hN; cases hN
          | some fr1 =>
            rw [hpd] at hN
            exact opsL_is hop r (k + 1) hr fr1 p.2 R1 w1 _ N hN hh1 (putd_is (hf.ext e1) hv1 hpd) fun q hq2 R2 w2 a2 e2 hh2 hf2 => hq q (hsub q hq2) R2 w2 a2 (e1.trans e2) hh2 hf2
      | false =>
        dsimp only at he
        rw [if_neg Bool.false_ne_true]
        cases hp : putd nt fr o.dst undef with
        | none => rw [hp] at he; cases he
        | some fr1 =>
          rw [hp] at he
          dsimp only at he
          exact ⟨fun _ _ => trivial, opsL_is hop r (k + 1) hr fr1 h R w _ L he hh (putd_is hf VR.undef hp) hq⟩

variable {fns : Tr Func} {op : CallF → Fr → Hp → Oper → Option (Value × Hp)} {dr : CallF → Nat → Array Oper → Fr → Hp → Option (Fr × Hp)} {res : Func → Fr → Hp → Option Value}
theorem FR.args {R : Rn} {nt : Nat} {args : List Value} {args' : Array Value} (h : A2 (VR R) args args'.toList) (hl : args.length ≤ nt) (hn : nt < 549755813888) :
    FR R none nt ⟨Tr.ofL args 0 .lf, some []⟩ { tmps := args' ++ Array.replicate (nt - args'.size) undef, defers := [] } := by
  have hs : args.length = args'.size := by have := h.1; simpa using this
  refine ⟨by simp; omega, hn, ⟨rfl, fun i hi => (by cases hi), fun _ => rfl⟩, fun t v ht => ?_⟩
  change (Tr.ofL args 0 .lf).get t = some v at ht
  rw [Tr.get_ofL args 0 .lf t (by omega)] at ht
  by_cases c : 0 ≤ t ∧ t < 0 + args.length
  · rw [if_pos c] at ht
    obtain ⟨v', h1, h2⟩ := h.2 t v (by simpa using ht)
    refine ⟨v', ?_, h2⟩
    rw [Array.getElem?_toList] at h1
    rw [Array.getElem?_append_left (by omega)]
    exact h1
  · rw [if_neg c] at ht
    rw [Tr.get_lf] at ht; cases ht
theorem setP_is {R : Rn} {nt : Nat} : ∀ (ps : List Nat) (args args' : List Value) (t : Tr Value) (tmps : Array Value), (∀ p ∈ ps, p < nt) → nt ≤ tmps.size → nt < 549755813888 → args.length = ps.length → A2 (VR R) args args' → TR R t tmps →
    TR R (setP ps args t) ((ps.zip args').foldl (fun t (p, v) => t.setIfInBounds p v) tmps) ∧ nt ≤ ((ps.zip args').foldl (fun t (p, v) => t.setIfInBounds p v) tmps).size
  | [], args, args', t, tmps, _, hn, _, _, _, ht => ⟨ht, hn⟩
  | p :: ps, [], args', t, tmps, _, _, _, hl, _, _ => by cases hl
  | p :: ps, v :: args, [], t, tmps, _, _, _, _, ha, _ => by have := ha.1; cases this
  | p :: ps, v :: args, v' :: args', t, tmps, hp, hn, hs, hl, ha, ht => by
    have hv : VR R v v' := by obtain ⟨x, h1, h2⟩ := ha.2 0 v rfl; cases h1; exact h2
    have hpn := hp p (List.mem_cons_self ..)
    refine setP_is ps args args' _ _ (fun q hq => hp q (List.mem_cons_of_mem _ hq)) (by simpa using hn) hs (by simpa using hl) ⟨by simpa using ha.1, fun i x hx => ha.2 (i + 1) x hx⟩ fun k x hx => ?_
    rw [Tr.get_put 40 t p v k (by omega)] at hx
    by_cases e : k = p
    · subst e
      rw [if_pos rfl] at hx
      cases hx
      exact ⟨v', Array.getElem?_setIfInBounds_self_of_lt (by omega), hv⟩
    · rw [if_neg e] at hx
      obtain ⟨x', h1, h2⟩ := ht k x hx
      exact ⟨x', by rw [Array.getElem?_setIfInBounds_ne (fun e' => e e'.symm)]; exact h1, h2⟩
theorem leave_is {fn : Func} {tmps : Array Value} {w0 : World} {Φ : Fx} {R : Rn} {W : Ending → World → Prop} : ∀ (ms : List Nat) (h h1 : Hp) (w : World), closeM ms h = some h1 → HR sz w0 Φ R w h →
    (∀ w', HR sz w0 Φ R w' h1 → ∃ v, (results fn tmps).run P w' = .ok v w' ∧ W (.returned v) w') → LeavesInM (FW none) 0 P fn tmps W (ms.map fun i => { target := .collected (R.ρ i), args := #[] }) .returning w
  | [], h, h1, w, hc, hh, hk => by
    cases hc
    exact hk w hh
  | i :: ms, h, h1, w, hc, hh, hk => by
    unfold closeM at hc
    split at hc
    · rename_i hb
      obtain ⟨h2, h3, o, h4, h5⟩ := hh.blk i _ hb
      cases h5
      refine ⟨by simp, .inl ⟨R.ρ i, _, rfl, run_takeDeferred h4, leave_is ms _ h1 _ hc ?_ hk⟩⟩
      refine (hh.del i).on ⟨rfl, rfl, rfl, by simp, fun k hk => World.putObj_heap_other (fun e => h3 (e ▸ hk))⟩ fun j c hc => ?_
      dsimp only at hc
      rw [Tr.get_del] at hc
      by_cases e : j = i
      · rw [if_pos e] at hc; cases hc
      · rw [if_neg e] at hc
        exact World.putObj_heap_other (fun e' => e (hh.inj j i c _ hc hb e'))
    · cases hc
theorem HR.putObj {w0 : World} {Φ : Fx} {R : Rn} {w : World} {h : Hp} (hh : HR sz w0 Φ R w h) {i : Nat} {b0 b : Ob} {o : Obj} (hb : h.heap.get i = some b0) (hor : OR sz R i b o) : HR sz w0 Φ R (w.putObj (R.ρ i) o) ⟨h.heap.put 40 i b, h.next, h.tab⟩ := by
  obtain ⟨h2, h3, o', h4, h5⟩ := hh.blk i _ hb
  exact hh.set hb ⟨rfl, rfl, rfl, by simp, fun k hk => World.putObj_heap_other (fun e => h3 (e ▸ hk))⟩ (fun k hk _ => World.putObj_heap_other hk) (World.putObj_heap_same (hh.old hb)) hor
theorem HR.delA {w0 : World} {Φ : Fx} {R : Rn} {w : World} : ∀ (ks : List Nat) {h : Hp}, HR sz w0 Φ R w h → HR sz w0 Φ R w (delA ks h)
  | [], h, hh => hh
  | k :: l, h, hh => HR.delA l (hh.del k)
theorem EvS.one {evn : Nat → Code → Fr → Hp → Outs} (hev : EvS P sz evn) : ∀ w0 Φ nt c fr h e fr' h', evn nt c fr h = some [(e, fr', h')] → ∀ (R : Rn) (rd : Option Nat) (w : World) (a : Act) (Q : Exit → Act → World → Prop), HR sz w0 Φ R w h → FR R rd nt fr a →
    (∀ R' w' a', Ext R R' → HR sz w0 Φ R' w' h' → FR R' rd nt fr' a' → Q e.to a' w') → c.wpIn (FW rd) 0 P Q a w :=
  fun w0 Φ nt c fr h e fr' h' he R rd w a Q hh hf hq => hev w0 Φ nt c fr h _ he R rd w a Q hh hf fun p hp => by cases List.mem_singleton.1 hp; exact hq
theorem callB_is (hfn : FnOK P fns) (hres : ResS P sz res) {evn : Nat → Code → Fr → Hp → Outs} (hev : EvS P sz evn) :
    CallS P sz (callB fns res evn) := by
  intro w0 Φ c args h v h' he R w args' W hh ha hW
  cases c with
  | fn f =>
    unfold callB at he
    dsimp only at he
    cases hf : fns.get f with
    | none => rw [hf] at he; cases he
    | some fn =>
      rw [hf] at he
      dsimp only at he
      cases hb : fn.body with
      | none => rw [hb] at he; cases he
      | some b =>
        rw [hb] at he
        dsimp only at he
        cases hc : Nat.ble args.length fn.ntmps && Nat.blt fn.ntmps 549755813888 with
        | false => rw [hc] at he; cases he
        | true =>
          rw [hc] at he
          dsimp only [cond_true] at he
          rw [Bool.and_eq_true, Nat.ble_eq, Nat.blt_eq] at hc
          refine ⟨⟨fn, (hfn f fn hf).1, (hfn f fn hf).2, by rw [hb]; rfl⟩, callsIn_wide.1 (callsIn_of_wp_marks (F := Fence.wide) (n := 0) (hfn f fn hf).1 hb trivial ?_)⟩
          cases hv : evn fn.ntmps b ⟨Tr.ofL args 0 .lf, some []⟩ h with
          | none => rw [hv] at he; cases he
          | some L =>
            rw [hv] at he
            dsimp only at he
            cases hM : bindL (backL res fn) L with
            | none => rw [hM] at he; cases he
            | some M =>
              rw [hM] at he
              dsimp only at he
              refine hev w0 Φ _ _ _ _ _ hv R none w _ _ hh (FR.args ha hc.1 hc.2) fun p hp R1 w1 a1 e1 hh1 hf1 => ?_
              obtain ⟨N, hN, hsub⟩ := bindL_is hM p hp
              obtain ⟨e, fr1, h1⟩ := p
              have fin : (match closeM (fr1.ms.getD []) h1 with | some h1 => (match res fn fr1 h1 with | some v => some [(v, h1)] | none => none) | none => none) = some N → LeavesInM (FW none) 0 P fn a1.tmps W a1.defers .returning w1 := fun h3 => by
                cases hm : closeM (fr1.ms.getD []) h1 with
                | none => rw [hm] at h3; cases h3
                | some h4 =>
                  rw [hm] at h3
                  dsimp only at h3
                  cases hr : res fn fr1 h4 with
                  | none => rw [hr] at h3; cases h3
                  | some v1 =>
                    rw [hr] at h3
                    cases h3
                    obtain ⟨ks, hx⟩ := same1_is he _ (hsub _ (List.mem_singleton_self _))
                    cases hx
                    rw [hf1.2.2.1.1]
                    refine leave_is (fr1.ms.getD []) h1 _ w1 hm hh1 fun w' hh2 => ?_
                    obtain ⟨v', h5, h6⟩ := hres w0 Φ fn fr1 _ _ hr R1 w' none _ a1 hh2 hf1
                    exact ⟨v', h5, hW R1 w' v' e1 (HR.delA ks hh2) h6⟩
              cases e with
              | exit i => cases hN
              | goto i => cases hN
              | normal => exact fin hN
              | ret => exact fin hN
  | yl i =>
    unfold callB at he
    dsimp only at he
    split at he
    · rename_i pend t nt ps as bd hb
      cases hc : Nat.beq args.length ps.size && ps.toList.all (Nat.blt · nt) with
      | false => rw [hc] at he; cases he
      | true =>
        rw [hc] at he
        dsimp only [cond_true] at he
        rw [Bool.and_eq_true] at hc
        have hlen := Nat.eq_of_beq_eq_true hc.1
        have hps : ∀ p ∈ ps.toList, p < nt := fun p hp => by have := List.all_eq_true.1 hc.2 p hp; simpa [Nat.blt_eq] using this
        obtain ⟨hD, hΦ, o, ho, l, rfl, hl1, hl2, rfl, rfl, rfl, hl3, hl4, hl5⟩ := hh.blk i _ hb
        refine ⟨hD, l.fn, _, l.assign, l.body, run_yield ho (by have := ha.1; simp at this; omega), roundIn_of_wpIn (F := Fence.wide) (n := 0) trivial ?_⟩
        split at he
        · rename_i fr1 h1 hev1
          have hset := setP_is (R := R) l.params.toList args args'.toList t l.tmps hps hl3 hl4 (by simpa using hlen) ha hl5
          have hfold : (l.params.zip args').foldl (fun tmps (x : Tmp × Value) => match x with | (t, a) => tmps.setIfInBounds t a) l.tmps = (l.params.toList.zip args'.toList).foldl (fun t (x : Nat × Value) => match x with | (p, v) => t.setIfInBounds p v) l.tmps := by
            rw [← Array.foldl_toList, Array.toList_zip]
          rw [hfold]
          refine hev.one w0 Φ _ _ _ _ _ _ _ hev1 R (some (R.ρ i)) w _ _ hh ⟨hset.2, hl4, ⟨rfl, fun i hi => (by cases hi), fun hx => (by cases hx)⟩, hset.1⟩ fun R1 w1 a1 e1 hh1 hf1 => ?_
          split at he
          · rename_i pend1 t1 nt1 ps1 as1 bd1 hb1
            obtain ⟨hD1, hΦ1, o1, ho1, k1, rfl, q1, q2, q3, q4, q5, q6, q7, q8⟩ := hh1.blk i _ hb1
            have eρ : R1.ρ i = R.ρ i := e1.ρ i hD
            rw [← eρ]
            refine ⟨_, run_beginRound ho1 q1, ?_⟩
            have hh2 := hh1.putObj (b := .loop .busy pend1 t1 nt1 ps1 as1 bd1) (o := .loop { k1 with state := .busy }) hb1 ⟨_, rfl, rfl, q2, q3, q4, q5, q6, q7, q8⟩
            split at he
            · rename_i e fr2 h2 hev2
              rw [← eρ] at hf1
              refine hev.one w0 Φ _ _ _ _ _ _ _ hev2 R1 (some (R1.ρ i)) _ _ _ hh2 hf1 fun R2 w2 a2 e2 hh3 hf2 => ?_
              split at he
              · rename_i st2 pend2 t2 nt2 ps2 as2 bd2 hb2
                cases he
                obtain ⟨hD2, hΦ2, o2, ho2, k2, rfl, r1, r2, r3, r4, r5, r6, r7, r8⟩ := hh3.blk i _ hb2
                have eρ2 : R2.ρ i = R1.ρ i := e2.ρ i hD1
                rw [← eρ2]
                have fin : ∀ (j : Option Code) (st : LoopState) (y : Bool), j = jumpOf e → st = stOf e → y = yesOf e → j.isNone = y → (if j.isNone then LoopState.ready else .done) = st → ∃ v w', (Instr.endRound (R2.ρ i) j).run P w2 = .ok v w' ∧ W (.returned v) w' := fun j st y hj hst hy h1 h2 => by
                  refine ⟨_, _, run_endRound j ho2, ?_⟩
                  refine hW R2 _ _ (e1.trans e2) (hh3.putObj (b := .loop (stOf e) (jumpOf e) t2 nt2 ps2 as2 bd2) (o := .loop { k2 with state := if j.isNone then .ready else .done, pending := j }) hb2 ⟨_, rfl, h2.trans hst, hj, r3, r4, r5, r6, r7, r8⟩) ?_
                  rw [h1, hy]
                  exact .lit rfl
                cases e with
                | normal => exact fin none .ready true rfl rfl rfl rfl rfl
                | exit id => exact fin (some (.exit id)) .done false rfl rfl rfl rfl rfl
                | goto id => exact fin (some (.goto id)) .done false rfl rfl rfl rfl rfl
                | ret => exact fin (some .ret) .done false rfl rfl rfl rfl rfl
              · cases he
            · cases he
          · cases he
        · cases he
    · cases he
end
/-- what is jumped to in a scope -/
def jmpP (P : Program) (c : Code) (Q : Exit → Act → World → Prop) : Nat → Code → Act → World → Prop
  | 0, _, _, _ => False
  | m + 1, x, a, w => x.wp P (fun e a w => match e with
      | .goto l => match findLabel c l with
        | some rest => jmpP P c Q m rest a w
        | none => Q (.goto l) a w
      | e => Q e a w) a w
theorem wp_scope_jmp {P : Program} {c : Code} {Q : Exit → Act → World → Prop} {m : Nat} {a : Act} {w : World} (h : jmpP P c Q m c a w) : (Code.scope c).wp P Q a w := by
  intro b k cs
  have key : ∀ m x a w, jmpP P c Q m x a w → ∃ e a' w', Q e a' w' ∧ Arrives P (lone (b.at a (.code x :: .inScope c :: k)) cs w) b k cs e a' w' := by
    intro m
    induction m with
    | zero => intro x a w h; exact h.elim
    | succ m ih =>
      intro x a w h
      obtain ⟨e, a₁, w₁, hq, harr⟩ := h b (.inScope c :: k) cs
      cases e with
      | normal => exact ⟨.normal, a₁, w₁, hq, Steps.trans harr (.one step_inScope)⟩
      | exit id => exact ⟨.exit id, a₁, w₁, hq, fun k' hk => harr k' (by simp [exitTo, hk])⟩
      | goto l =>
        dsimp only at hq
        cases hf : findLabel c l with
        | some rest =>
          rw [hf] at hq
          obtain ⟨e₂, a₂, w₂, hq₂, harr₂⟩ := ih rest a₁ w₁ hq
          exact ⟨e₂, a₂, w₂, hq₂, .of_steps (harr _ (by simp [gotoIn, hf])) harr₂⟩
        | none =>
          rw [hf] at hq
          exact ⟨.goto l, a₁, w₁, hq, fun k' hk => harr k' (by simp [gotoIn, hf, hk])⟩
      | ret => exact ⟨_, a₁, w₁, hq, harr⟩
      | panic ch => exact ⟨_, a₁, w₁, hq, harr⟩
      | outgrown => exact ⟨_, a₁, w₁, hq, harr⟩
  obtain ⟨e, a', w', hq, harr⟩ := key m c a w h
  exact ⟨e, a', w', hq, .of_steps (.one step_scope) harr⟩
theorem scopeF_is {P : Program} {sz : Nat → Nat} {evn : Nat → Code → Fr → Hp → Outs} (hev : EvS P sz evn) {nt : Nat} {c : Code} {w0 : World} {Φ : Fx} {Q : Exit → Act → World → Prop} :
    ∀ (m : Nat) (x : Code) (fr : Fr) (h : Hp) (L : List (Ex × Fr × Hp)), scopeF (evn nt) c m x fr h = some L → ∀ (R : Rn) (w : World) (a : Act), HR sz w0 Φ R w h → FR R none nt fr a →
      (∀ p ∈ L, ∀ R' w' a', Ext R R' → HR sz w0 Φ R' w' p.2.2 → FR R' none nt p.2.1 a' → Q p.1.to a' w') → jmpP P c Q m x a w
  | 0, x, fr, h, L, he, _, _, _, _, _, _ => by cases he
  | m + 1, x, fr, h, L, he, R, w, a, hh, hf, hq => by
    rw [scopeF] at he
    unfold jmpP
    cases hx : evn nt x fr h with
    | none => rw [hx] at he; cases he
    | some M =>
      rw [hx] at he
      dsimp only at he
      refine wpIn_wide.1 (hev w0 Φ nt x fr h M hx R none w a _ hh hf fun p hp R1 w1 a1 x1 hh1 hf1 => ?_)
      obtain ⟨N, hN, hsub⟩ := bindL_is he p hp
      obtain ⟨e1, fr1, h1⟩ := p
      cases e1 with
      | normal => cases hN; exact hq _ (hsub _ (List.mem_singleton_self _)) R1 w1 a1 x1 hh1 hf1
      | exit i => cases hN; exact hq _ (hsub _ (List.mem_singleton_self _)) R1 w1 a1 x1 hh1 hf1
      | ret => cases hN; exact hq _ (hsub _ (List.mem_singleton_self _)) R1 w1 a1 x1 hh1 hf1
      | goto l =>
        dsimp only [Ex.to] at hN ⊢
        cases hl : findLabel c l with
        | none => rw [hl] at hN; cases hN; exact hq _ (hsub _ (List.mem_singleton_self _)) R1 w1 a1 x1 hh1 hf1
        | some rest =>
          rw [hl] at hN
          exact scopeF_is hev m rest fr1 h1 N hN R1 w1 a1 hh1 hf1 fun q hq2 R2 w2 a2 e2 hh2 hf2 => hq q (hsub q hq2) R2 w2 a2 (x1.trans e2) hh2 hf2
theorem VR.func {R : Rn} {g : Nat} {c : Array Value} {v : Value} (h : VR R (.func (.func g) #[] c) v) : ∃ c', v = .func (.func g) #[] c' ∧ A2 (BR R) c.toList c'.toList := by
  rcases h with (h | ⟨_, _, h, _⟩) | ⟨_, _, h, _⟩
  · cases h with
    | lit _ hl =>
      have hl2 : ((#[] : Array Value).isEmpty && c.isEmpty) = true := hl
      simp at hl2
      subst hl2
      exact ⟨#[], rfl, rfl, fun i v hv => by simp at hv⟩
    | fn _ _ _ f' c' h1 h2 =>
      have : f' = #[] := Array.eq_empty_of_size_eq_zero (by have := h1.1; simpa using this.symm)
      subst this
      exact ⟨c', rfl, h2⟩
  · cases h
  · cases h
theorem run_callFunc {P : Program} {f : Nat} (h : Callable P f) (args : Array Value) (w : World) : (callFunc f args).run P w = .ok (.enter f args) w := by
  obtain ⟨fn, hfn, hnm, hbd⟩ := h
  have hn' : fn.name ≠ "runtime.NumGoroutine" := by simpa using hnm
  have hb' : fn.body ≠ none := by intro e; rw [e] at hbd; cases hbd
  simp [callFunc, hfn, hn', hb']
theorem ev_is {P : Program} {sz : Nat → Nat} {fns : Tr Func} {op : CallF → OpL} {dr : CallF → Nat → Array Oper → Fr → Hp → Option (Fr × Hp)} {res : Func → Fr → Hp → Option Value}
    (hfn : FnOK P fns) (hres : ResS P sz res) (hop : ∀ call, CallS P sz call → OpSL P sz (op call)) (hdr : ∀ call, CallS P sz call → DrS P sz (dr call)) :
    ∀ n, EvS P sz (ev fns op dr res n) ∧ ∀ w0 Φ nt b fr h L, ev fns op dr res n nt (.loop b) fr h = some L → ∀ (R : Rn) (rd : Option Nat) (w : World) (a : Act) (Q : Exit → Act → World → Prop), HR sz w0 Φ R w h → FR R rd nt fr a →
      (∀ p ∈ L, ∀ R' w' a', Ext R R' → HR sz w0 Φ R' w' p.2.2 → FR R' rd nt p.2.1 a' → Q p.1.to a' w') → Code.roundsIn (FW rd) 0 P b Q n a w
  | 0 => ⟨fun w0 Φ nt c fr h L he => (by cases he), fun w0 Φ nt b fr h L he => (by cases he)⟩
  | n + 1 => by
    obtain ⟨ih, ihl⟩ := ev_is hfn hres hop hdr n
    have loop : ∀ w0 Φ nt b fr h L, ev fns op dr res (n + 1) nt (.loop b) fr h = some L → ∀ (R : Rn) (rd : Option Nat) (w : World) (a : Act) (Q : Exit → Act → World → Prop), HR sz w0 Φ R w h → FR R rd nt fr a →
        (∀ p ∈ L, ∀ R' w' a', Ext R R' → HR sz w0 Φ R' w' p.2.2 → FR R' rd nt p.2.1 a' → Q p.1.to a' w') → Code.roundsIn (FW rd) 0 P b Q (n + 1) a w := by
      intro w0 Φ nt b fr h L he R rd w a Q hh hf hq
      rw [roundsIn_succ]
      rw [ev] at he
      cases hb : ev fns op dr res n nt b fr h with
      | none => rw [hb] at he; cases he
      | some M =>
        rw [hb] at he
        dsimp only at he
        refine ih w0 Φ _ _ _ _ _ hb R rd w a _ hh hf fun p hp R1 w1 a1 e1' hh1 hf1 => ?_
        obtain ⟨N, hN, hsub⟩ := bindL_is he p hp
        obtain ⟨e1, fr1, h1⟩ := p
        cases e1 with
        | normal => exact ihl w0 Φ nt b fr1 h1 N hN R1 rd w1 a1 Q hh1 hf1 fun q hq2 R2 w2 a2 e2 hh2 hf2 => hq q (hsub q hq2) R2 w2 a2 (e1'.trans e2) hh2 hf2
        | exit i => cases hN; exact hq _ (hsub _ (List.mem_singleton_self _)) R1 w1 a1 e1' hh1 hf1
        | goto i => cases hN; exact hq _ (hsub _ (List.mem_singleton_self _)) R1 w1 a1 e1' hh1 hf1
        | ret => cases hN; exact hq _ (hsub _ (List.mem_singleton_self _)) R1 w1 a1 e1' hh1 hf1
    refine ⟨?_, loop⟩
    intro w0 Φ nt c fr h L he R rd w a Q hh hf hq
    have hcall := callB_is (evn := ev fns op dr res n) hfn hres ih
    cases c with
    | skip => cases he; exact wpIn_skip (hq _ (List.mem_singleton_self _) R w a (.refl R) hh hf)
    | label l => cases he; exact wpIn_label (hq _ (List.mem_singleton_self _) R w a (.refl R) hh hf)
    | exit i => cases he; exact wpIn_exit (hq _ (List.mem_singleton_self _) R w a (.refl R) hh hf)
    | goto i => cases he; exact wpIn_goto (hq _ (List.mem_singleton_self _) R w a (.refl R) hh hf)
    | ret => cases he; exact wpIn_ret (hq _ (List.mem_singleton_self _) R w a (.refl R) hh hf)
    | region id ops draw =>
      rw [ev] at he
      cases draw with
      | true =>
        dsimp only [cond_true] at he
        cases ho : dr (callB fns res (ev fns op dr res n)) nt ops fr h with
        | none => rw [ho] at he; cases he
        | some p =>
          obtain ⟨fr1, h1⟩ := p
          rw [ho] at he
          cases he
          exact hdr _ hcall w0 Φ nt ops fr h _ _ ho id R rd w a Q hh hf fun R' w' a' x1 x2 x3 => hq _ (List.mem_singleton_self _) R' w' a' x1 x2 x3
      | false =>
        dsimp only [cond_false] at he
        cases ho : opsL (op (callB fns res (ev fns op dr res n))) nt ops ops.toList fr h with
        | none => rw [ho] at he; cases he
        | some M =>
          rw [ho] at he
          cases he
          refine wpIn_region ?_
          rw [List.range_eq_range', ← Array.length_toList]
          exact opsL_is (hop _ hcall) ops.toList 0 (fun i => by simp) fr h R w a M ho hh hf fun p hp R' w' a' x1 x2 x3 => hq (.normal, p.1, p.2) (List.mem_map.2 ⟨p, hp, rfl⟩) R' w' a' x1 x2 x3
    | seq x y =>
      rw [ev] at he
      refine wpIn_seq ?_
      cases hx : ev fns op dr res n nt x fr h with
      | none => rw [hx] at he; cases he
      | some M =>
        rw [hx] at he
        dsimp only at he
        refine ih w0 Φ _ _ _ _ _ hx R rd w a _ hh hf fun p hp R1 w1 a1 e1' hh1 hf1 => ?_
        obtain ⟨N, hN, hsub⟩ := bindL_is he p hp
        obtain ⟨e1, fr1, h1⟩ := p
        cases e1 with
        | normal => exact ih w0 Φ _ _ _ _ _ hN R1 rd w1 a1 Q hh1 hf1 fun q hq2 R2 w2 a2 e2 hh2 hf2 => hq q (hsub q hq2) R2 w2 a2 (e1'.trans e2) hh2 hf2
        | exit i => cases hN; exact hq _ (hsub _ (List.mem_singleton_self _)) R1 w1 a1 e1' hh1 hf1
        | goto i => cases hN; exact hq _ (hsub _ (List.mem_singleton_self _)) R1 w1 a1 e1' hh1 hf1
        | ret => cases hN; exact hq _ (hsub _ (List.mem_singleton_self _)) R1 w1 a1 e1' hh1 hf1
    | cond x p q =>
      rw [ev] at he
      cases hx : ev1 fr x with
      | none => rw [hx] at he; cases he
      | some v =>
        rw [hx] at he
        obtain ⟨v', h1, h2⟩ := ev1_is hf hx
        cases v <;> first | (cases he; done) | skip
        case bool t =>
          rw [h2.bool] at h1
          refine wpIn_cond h1 ?_
          cases t with
          | true => exact ih w0 Φ _ _ _ _ _ he R rd w a Q hh hf hq
          | false => exact ih w0 Φ _ _ _ _ _ he R rd w a Q hh hf hq
    | block id b =>
      rw [ev] at he
      refine wpIn_block ?_
      cases hx : ev fns op dr res n nt b fr h with
      | none => rw [hx] at he; cases he
      | some M =>
        rw [hx] at he
        cases he
        refine ih w0 Φ _ _ _ _ _ hx R rd w a _ hh hf fun p hp R1 w1 a1 e1' hh1 hf1 => ?_
        have hm : blockK id p ∈ M.map (blockK id) := List.mem_map.2 ⟨p, hp, rfl⟩
        obtain ⟨e1, fr1, h1⟩ := p
        cases e1 with
        | normal => exact hq _ hm R1 w1 a1 e1' hh1 hf1
        | goto i => exact hq _ hm R1 w1 a1 e1' hh1 hf1
        | ret => exact hq _ hm R1 w1 a1 e1' hh1 hf1
        | exit i =>
          change if i = id then Q .normal a1 w1 else Q (.exit i) a1 w1
          unfold blockK at hm
          dsimp only at hm
          by_cases hid : i = id
          · rw [Tr.beq_iff, decide_eq_true hid] at hm
            rw [if_pos hid]
            exact hq _ hm R1 w1 a1 e1' hh1 hf1
          · rw [Tr.beq_iff, decide_eq_false hid] at hm
            rw [if_neg hid]
            exact hq _ hm R1 w1 a1 e1' hh1 hf1
    | loop b => exact wpIn_loop_rounds (n + 1) (loop w0 Φ nt b fr h L he R rd w a Q hh hf hq)
    | scope b =>
      rw [ev] at he
      cases hm : fr.ms.isSome with
      | false => rw [hm] at he; cases he
      | true =>
        rw [hm] at he
        dsimp only [cond_true] at he
        have hrd := hf.2.2.1.2.2 hm
        subst hrd
        exact wpIn_wide.2 (wp_scope_jmp (scopeF_is ih n b fr h L he R w a hh hf hq))
    | rangeFunc g ps as bd =>
      rw [ev] at he
      split at he
      · rename_i ms gf f cs hms hg
        cases hc : f.isEmpty && Nat.blt h.next 400000000 with
        | false => rw [hc] at he; cases he
        | true =>
          rw [hc] at he
          dsimp only [cond_true] at he
          rw [Bool.and_eq_true, Array.isEmpty_iff, Nat.blt_eq] at hc
          obtain ⟨rfl, hlt⟩ := hc
          have hrd := hf.2.2.1.2.2 (by rw [hms]; rfl)
          subst hrd
          obtain ⟨g', hg1, hg2⟩ := ev1_is hf hg
          obtain ⟨cs', rfl, hcs⟩ := hg2.func
          have hnx := hh.nx
          cases hcl : callB fns res (ev fns op dr res n) (.fn gf) (.func (.yield (h.next + 1)) #[] #[] :: cs.toList) ⟨(h.heap.put 40 h.next .defd).put 40 (h.next + 1) (.loop .ready none fr.t nt ps as bd), h.next + 2, h.tab⟩ with
          | none => rw [hcl] at he; cases he
          | some p =>
            obtain ⟨vr, h2⟩ := p
            rw [hcl] at he
            dsimp only at he
            refine wpIn_rangeFunc fun fn _ => ?_
            -- the two new blocks
            have n1 := hh.newO (w' := w.alloc (.deferred (some []))) (g := w.heap.size) (k := 0) (b := .defd) (o := .deferred (some [])) (hh.stayAlloc _) hh.young (fun i c hc => Nat.ne_of_lt (hh.old hc)) (fun i c hc => Below.heap_alloc _ _ _ (hh.old hc)) (by show (w.heap.push _)[w.heap.size]? = _; simp) rfl
              (i := h.next) (h' := ⟨h.heap.put 40 h.next .defd, h.next + 1, h.tab⟩) (by unfold newA; rw [show Nat.blt h.next 500000000 = true by rw [Nat.blt_eq]; omega]; rfl)
            obtain ⟨_, hh1⟩ := n1
            have x1 := hh.add_ext w.heap.size 0
            generalize hR1 : R.add w.heap.size 0 = R1 at hh1 x1
            have hD1 : R1.D h.next := by rw [← hR1, hnx]; exact .inr rfl
            have hρ1 : R1.ρ h.next = w.heap.size := by rw [← hR1, hnx]; exact if_pos rfl
            generalize hw1 : w.alloc (.deferred (some [])) = w1 at hh1
            have hs1 : w1.heap.size = w.heap.size + 1 := by rw [← hw1]; simp
            generalize hlp : ({ state := .ready, pending := none, fn, tmps := a.tmps, params := ps, assign := as, body := bd, defers := w.heap.size } : Loop) = lp
            have x2 := hh1.add_ext w1.heap.size 0
            have n2 := hh1.newO (w' := w1.alloc (.loop lp)) (g := w1.heap.size) (k := 0) (b := .loop .ready none fr.t nt ps as bd) (o := .loop lp) (hh1.stayAlloc _) hh1.young (fun i c hc => Nat.ne_of_lt (hh1.old hc)) (fun i c hc => Below.heap_alloc _ _ _ (hh1.old hc)) (by show (w1.heap.push _)[w1.heap.size]? = _; simp)
              (by
                refine ⟨lp, rfl, ?_⟩
                rw [← hlp]
                exact ⟨rfl, rfl, rfl, rfl, rfl, hf.1, hf.2.1, fun k v hv => by
                  obtain ⟨v', h5, h6⟩ := hf.2.2.2 k v hv
                  exact ⟨v', h5, (h6.ext x1.weak).ext x2.weak⟩⟩)
              (i := h.next + 1) (h' := ⟨(h.heap.put 40 h.next .defd).put 40 (h.next + 1) (.loop .ready none fr.t nt ps as bd), h.next + 2, h.tab⟩) (by unfold newA; rw [show Nat.blt (h.next + 1) 500000000 = true by rw [Nat.blt_eq]; omega]; rfl)
            obtain ⟨hi2, hh2⟩ := n2
            generalize hR2 : R1.add w1.heap.size 0 = R2 at hh2 x2
            have hD2 : R2.D (h.next + 1) := by rw [← hR2, hi2]; exact .inr rfl
            have hρ2 : R2.ρ (h.next + 1) = w.heap.size + 1 := by rw [← hR2, hi2, ← hs1]; exact if_pos rfl
            generalize hw2 : w1.alloc (.loop lp) = w2 at hh2
            have x12 := x1.trans x2
            have hA : A2 (VR R2) (.func (.yield (h.next + 1)) #[] #[] :: cs.toList) (#[Value.func (.yield (w.heap.size + 1)) #[] #[]] ++ cs').toList := by
              refine ⟨by have := hcs.1; simp at this ⊢; omega, fun i v hv => ?_⟩
              rw [Array.toList_append]
              cases i with
              | zero =>
                cases hv
                refine ⟨_, rfl, ?_⟩
                rw [← hρ2]
                exact .inl (.inl (.yl _ hD2))
              | succ i =>
                obtain ⟨v', h5, h6⟩ := hcs.2 i v hv
                exact ⟨v', h5, .inl (.inl (h6.ext x12).sr)⟩
            obtain ⟨hcb, _⟩ := hcall w0 Φ (.fn gf) _ _ _ _ hcl R2 w2 _ (fun _ _ => True) hh2 hA fun _ _ _ _ _ _ => trivial
            refine ⟨w.heap.size + 1, [{ target := .collected w.heap.size, args := #[] }], w2, { target := .fn (.func gf) cs', args := #[.func (.yield (w.heap.size + 1)) #[] #[]] }, w2, gf, #[Value.func (.yield (w.heap.size + 1)) #[] #[]] ++ cs', w2, ?_, ?_, fun _ _ => trivial, ?_, fun hx => (by cases hx), callsIn_wide.2 ?_⟩
            · rw [← hw2, ← hw1, ← hlp]; exact run_enterLoop_outer _ _ _ _ _
            · simp only [resolve, hg1]
              simp [go_sem]
            · simp [invoke, go_sem, run_callFunc hcb]
            · refine (hcall w0 Φ (.fn gf) _ _ _ _ hcl R2 w2 _ (rangePost (FW none) 0 P (w.heap.size + 1) Q { a with defers := [{ target := .collected w.heap.size, args := #[] }] ++ a.defers }) hh2 hA fun R3 w3 v3 x3 hh3 hv3 => ?_).2
              split at he
              · rename_i st pend t4 nt4 ps4 as4 bd4 hb4
                cases hbz : isBusy st with
                | true => rw [hbz] at he; cases he
                | false =>
                  rw [hbz] at he
                  dsimp only [cond_false] at he
                  obtain ⟨hD4, hΦ4, o4, ho4, l4, rfl, q1, q2, q3⟩ := hh3.blk _ _ hb4
                  have hρ4 : R3.ρ (h.next + 1) = w.heap.size + 1 := by rw [x3.ρ _ hD2, hρ2]
                  rw [hρ4] at ho4 hΦ4
                  have hne : l4.state ≠ .busy := fun e => by rw [q1] at e; subst e; cases hbz
                  have hh5 : HR sz w0 Φ R3 (w3.putObj (w.heap.size + 1) (.loop { l4 with state := .exhausted })) ⟨h2.heap.del (h.next + 1), h2.next, h2.tab⟩ := by
                    refine (hh3.del (h.next + 1)).on ⟨rfl, rfl, rfl, by simp, fun k hk => World.putObj_heap_other (fun e => hΦ4 (e ▸ hk))⟩ fun j c hc => ?_
                    dsimp only at hc
                    rw [Tr.get_del] at hc
                    by_cases e : j = h.next + 1
                    · rw [if_pos e] at hc; cases hc
                    · rw [if_neg e] at hc
                      exact World.putObj_heap_other (fun e' => e (hh3.inj j _ c _ hc hb4 (e'.trans hρ4.symm)))
                  have hf5 : FR R3 none nt ⟨fr.t, some (h.next :: ms)⟩ { a with defers := [{ target := .collected w.heap.size, args := #[] }] ++ a.defers } := by
                    have hf3 := (hf.ext x12.weak).ext x3.weak
                    refine ⟨hf3.1, hf3.2.1, ⟨?_, ?_, fun _ => rfl⟩, hf3.2.2.2⟩
                    · have e1 := hf3.2.2.1.1
                      rw [hms] at e1
                      show _ ++ a.defers = _
                      rw [e1]
                      unfold marks
                      simp only [Option.getD_some, List.map_cons]
                      rw [(x2.trans x3).ρ _ hD1, hρ1]
                      rfl
                    · intro i hi
                      rcases List.mem_cons.1 hi with rfl | hi
                      · exact (x2.trans x3).D _ hD1
                      · exact hf3.2.2.1.2.1 i (by rw [hms]; exact hi)
                  refine ⟨l4.pending, _, run_endLoop ho4 hne, ?_⟩
                  generalize hwx : w3.putObj (w.heap.size + 1) (.loop { l4 with state := .exhausted }) = wx at hh5
                  rw [q2]
                  cases pend with
                  | none => cases he; exact hq _ (List.mem_singleton_self _) R3 _ _ (x12.trans x3) hh5 hf5
                  | some c => exact ih w0 Φ _ _ _ _ _ he R3 none _ _ Q hh5 hf5 fun q hq2 R4 w4 a4 x4 => hq q hq2 R4 w4 a4 ((x12.trans x3).trans x4)
              · cases he
      · cases he
    | refuse s => cases he
end Go.Ev
