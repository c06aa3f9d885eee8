/- Regions that draw their order. -/
import Derived.Test.YtlchefdddgbohaaDoorEvX
import Derived.Orders
import Derived.OrdersIn
noncomputable section
namespace Go.Ev
open Go.RowKit
set_option linter.unusedVariables false
set_option linter.unusedSimpArgs false
def depsOf (o : Oper) : List Nat := o.after.toList.filterMap fun e => bif Region.binds .any e then some e.on else none
def depsAt (ops : Array Oper) (q : Nat) : List Nat := match ops.toList[q]? with
  | some o => depsOf o
  | none => []
def dstAt (ops : Array Oper) (q : Nat) : Option Nat := match ops.toList[q]? with
  | some o => o.dst
  | none => none
def looks (ops : Array Oper) (q : Nat) : List Nat := match ops.toList[q]? with
  | some o => o.looksAt ops
  | none => []
def anc (ops : Array Oper) : List Nat → List Nat → List Nat
  | [], S => S
  | q :: r, S => anc ops r (bif memN q S then depsAt ops q ++ S else S)
/-- who reads what p writes, and does not wait for it -/
def antiJ (ops : Array Oper) (p d j : Nat) : Bool := memN d (looks ops j) && (Nat.beq p j || !memN p (depsAt ops j))
def anti (ops : Array Oper) (p : Nat) : Bool := match dstAt ops p with
  | some d => (List.range ops.size).any (antiJ ops p d)
  | none => false
def statB (nt : Nat) (ops : Array Oper) : Bool := ((List.range ops.size).all fun p => match dstAt ops p with
  | some d => (List.range ops.size).all fun j => (!antiJ ops p d j || memN j (anc ops (List.range ops.size).reverse (depsAt ops p))) && (Nat.beq p j || (match dstAt ops j with | some e => !Nat.beq d e | none => true))
  | none => true) && (List.range ops.size).all fun j => (looks ops j).all (Nat.blt · nt)
def isU : Option Value → Bool
  | some (.tuple x) => x.toList.isEmpty
  | _ => false
def chk1 (ty : Ty) (ops : Array Oper) (fr : Fr) (h : Hp) (p : Nat) : Bool := match ops.toList[p]? with
  | some o => match wantd ops fr o with
    | some false => (match o.dst with | some d => isU (fr.get d) | none => true)
    | some true => match operQ ty fr h o with
      | some v => (match o.dst with
        | some d => (match fr.get d with | some u => beqV u v | none => false)
        | none => true)
      | none => false
    | none => false
  | none => false
/-- new places: what is answered, by the place -/
inductive NV where
  | ptr | sl (n c : Nat) | mp
def NV.val : NV → Nat → Value
  | .ptr, i => .pointer (some ⟨i, 0, none⟩)
  | .sl n c, i => .slice (some ⟨i, 0, none⟩) n c
  | .mp, i => .map (some i)
def newCs (ty : Ty) (t len : Nat) (ps : List (Nat × Value)) : Option (Nat × List Value) :=
  match desc ty t with
  | some (.slice e) => bif Nat.beq len 0 && ps.isEmpty then (match size ty e with | some _ => some (e, []) | none => none) else
    match size ty e, zero ty e with
    | some s, some z => match cellsOf z with
      | some zc => bif zc.all lit && Nat.ble (len * s) 10000 && Nat.blt 0 (len * s) && Nat.beq zc.length s then match fillA (fun i => some (i * s, s)) (zeros len zc) ps with
          | some cs => some (e, cs)
          | none => none
        else none
      | none => none
    | _, _ => none
  | _ => none
def operN (ty : Ty) (fr : Fr) (o : Oper) : Option (NV × Ob) := match o.op with
  | .alloc e => match zero ty e with
    | some z => match cellsOf z with
      | some l => bif l.all lit then some (.ptr, .row ⟨l, e, false⟩) else none
      | none => none
    | none => none
  | .box e x => match ev1 fr x with
    | some v => match cellsOf v with
      | some l => some (.ptr, .row ⟨l, e, false⟩)
      | none => none
    | none => none
  | .buildSlice t len ps => match evP fr ps.toList with
    | some l => match newCs ty t len l with
      | some (e, cs) => some (.sl len len, .row ⟨cs, e, false⟩)
      | none => none
    | none => none
  | .makeMap t none => some (.mp, .map [] 0)
  | .makeSlice t l c => match ev1 fr l, ev1 fr c with
    | some a, some b => match newMk ty t a b with
      | some (n, m, e, cs) => some (.sl n m, .row ⟨cs, e, false⟩)
      | none => none
    | _, _ => none
  | _ => none
/-- new places are taken in -/
def commit : List (Nat × Nat × Ob) → Hp → Hp
  | [], h => h
  | (_, x, ob) :: l, h => commit l ⟨h.heap.put 40 x ob, h.next, h.tab⟩
def memA (p : Nat) : List (Nat × Nat × Ob) → Bool
  | [] => false
  | (q, _, _) :: l => Nat.beq p q || memA p l
def runD (ty : Ty) (opE : Fr → Hp → Oper → Option (Value × Hp)) (nt : Nat) (ops : Array Oper) : List Nat → List Nat → List Nat → List (Nat × Nat × Ob) → Fr → Hp → Option (Fr × Hp)
  | [], done, cand, al, fr, h => bif (List.range ops.size).all (memN · done) then some (fr, commit al h) else none
  | i :: rest, done, cand, al, fr, h => match ops.toList[i]? with
    | none => none
    | some o => bif memN i done || !(depsOf o).all (memN · done) then none else
      match wantd ops fr o with
      | none => none
      | some false => bif anti ops i then none else match putd nt fr o.dst undef with
        | none => none
        | some fr' => runD ty opE nt ops rest (i :: done) (i :: cand) al fr' h
      | some true => match (bif anti ops i then none else operQ ty fr h o) with
        | some v => match putd nt fr o.dst v with
          | none => none
          | some fr' => runD ty opE nt ops rest (i :: done) (i :: cand) al fr' h
        | none => match (bif anti ops i then none else operN ty fr o) with
          | some (k, ob) => bif Nat.blt h.next 500000000 then match putd nt fr o.dst (k.val h.next) with
              | none => none
              | some fr' => runD ty opE nt ops rest (i :: done) (i :: cand) ((i, h.next, ob) :: al) fr' ⟨h.heap, h.next + 1, h.tab⟩
            else none
          | none => match opE fr (commit (al.filter fun e => memN e.1 (anc ops done (depsOf o))) h) o with
            | none => none
            | some (v, h') => match putd nt fr o.dst v with
              | none => none
              | some fr' => bif (List.range ops.size).all (fun j => Nat.beq j i || memN j done || !(depsAt ops j).all (memN · done)) &&
                  (cand.filter fun p => !memN p (anc ops done (depsOf o))).all (fun p => memA p (al.filter fun e => !memN e.1 (anc ops done (depsOf o))) || chk1 ty ops fr' h' p) then
                  runD ty opE nt ops rest (i :: done) (cand.filter fun p => !memN p (anc ops done (depsOf o))) (al.filter fun e => !memN e.1 (anc ops done (depsOf o))) fr' h' else none
/-- the order: what changes nothing first, then new places -/
def rank (o : Op) : Nat := match o with
  | .alloc _ | .box _ _ | .buildSlice _ _ _ | .makeMap _ _ | .makeSlice _ _ _ => 1
  | .store _ _ _ | .mapUpdate _ _ _ _ | .insert _ _ _ _ | .range _ _ | .next _ _ => 2
  | .call c => match c.callee with | .builtin .len => 0 | .builtin .cap => 0 | .builtin .min => 0 | .builtin .complex => 0 | .builtin .real => 0 | .builtin .imag => 0 | _ => 2
  | _ => 0
def pick (ops : Array Oper) (r : Nat) : List Nat → Option Nat
  | [] => none
  | i :: l => match ops.toList[i]? with
    | some o => bif Nat.beq (rank o.op) r && !anti ops i then some i else pick ops r l
    | none => pick ops r l
def ordG (ops : Array Oper) : Nat → List Nat → List Nat
  | 0, l => l.reverse
  | n + 1, l =>
    let rdy := (List.range ops.size).filter fun j => !memN j l && (depsAt ops j).all (memN · l)
    match pick ops 0 rdy with
    | some i => ordG ops n (i :: l)
    | none => match pick ops 1 rdy with
      | some i => ordG ops n (i :: l)
      | none => match rdy with
        | i :: _ => ordG ops n (i :: l)
        | [] => l.reverse

section
variable {ops : Array Oper}
theorem at_some {j : Nat} {o : Oper} (h : ops.toList[j]? = some o) : ops[j]? = some o := by rwa [Array.getElem?_toList] at h
theorem depsAt_some {j : Nat} {o : Oper} (h : ops[j]? = some o) : depsAt ops j = depsOf o := by unfold depsAt; rw [Array.getElem?_toList, h]
theorem dstAt_some {j : Nat} {o : Oper} (h : ops[j]? = some o) : dstAt ops j = o.dst := by unfold dstAt; rw [Array.getElem?_toList, h]
theorem looks_some {j : Nat} {o : Oper} (h : ops[j]? = some o) : looks ops j = o.looksAt ops := by unfold looks; rw [Array.getElem?_toList, h]
theorem mem_deps {o : Oper} {x : Nat} : x ∈ depsOf o ↔ ∃ e ∈ o.after, Region.binds .any e = true ∧ e.on = x := by
  unfold depsOf
  rw [List.mem_filterMap]
  constructor
  · rintro ⟨e, he, hx⟩
    cases hb : Region.binds .any e with
    | false => rw [hb] at hx; cases hx
    | true => rw [hb] at hx; cases hx; exact ⟨e, Array.mem_toList_iff.1 he, hb, rfl⟩
  · rintro ⟨e, he, hb, rfl⟩
    exact ⟨e, Array.mem_toList_iff.2 he, by rw [hb]; rfl⟩
theorem ready_iff {listed : Array Bool} {j : Nat} : j ∈ Region.ready .any ops listed ↔ listed.getD j true = false ∧ ∃ o, ops[j]? = some o ∧ ∀ x ∈ depsOf o, listed.getD x false = true := by
  rw [mem_ready]
  constructor
  · rintro ⟨h1, o, h2, h3⟩
    exact ⟨h1, o, h2, fun x hx => by obtain ⟨e, he, hb, rfl⟩ := mem_deps.1 hx; exact h3 e he hb⟩
  · rintro ⟨h1, o, h2, h3⟩
    exact ⟨h1, o, h2, fun e he hb => h3 _ (mem_deps.2 ⟨e, he, hb, rfl⟩)⟩
theorem anti_no {p : Nat} (h : anti ops p = false) {j d : Nat} (hj : j < ops.size) (hd : dstAt ops p = some d) (hm : d ∈ looks ops j) : p ≠ j ∧ p ∈ depsAt ops j := by
  unfold anti at h
  rw [hd] at h
  have h1 := List.any_eq_false.1 h j (List.mem_range.2 hj)
  unfold antiJ at h1
  rw [(memN_iff _ _).2 hm, Bool.true_and, Bool.not_eq_true, Bool.or_eq_false_iff, Bool.not_eq_false', memN_iff, Tr.beq_iff, decide_eq_false_iff_not] at h1
  exact h1
theorem stat_is {nt : Nat} (h : statB nt ops = true) {p j d : Nat} (hp : p < ops.size) (hj : j < ops.size) (hd : dstAt ops p = some d) :
    (d ∈ looks ops j → (p ≠ j ∧ p ∈ depsAt ops j) ∨ j ∈ anc ops (List.range ops.size).reverse (depsAt ops p)) ∧ (p ≠ j → dstAt ops j ≠ some d) := by
  unfold statB at h
  rw [Bool.and_eq_true] at h
  have h1 := List.all_eq_true.1 h.1 p (List.mem_range.2 hp)
  rw [hd] at h1
  have h2 := List.all_eq_true.1 h1 j (List.mem_range.2 hj)
  rw [Bool.and_eq_true] at h2
  refine ⟨fun hm => ?_, fun hne hdj => ?_⟩
  · have h3 := h2.1
    rw [Bool.or_eq_true, memN_iff, Bool.not_eq_true'] at h3
    rcases h3 with h3 | h3
    · unfold antiJ at h3
      rw [(memN_iff _ _).2 hm, Bool.true_and, Bool.or_eq_false_iff, Bool.not_eq_false', memN_iff, Tr.beq_iff, decide_eq_false_iff_not] at h3
      exact .inl h3
    · exact .inr h3
  · have h3 := h2.2
    rw [hdj] at h3
    simp only [Bool.or_eq_true, Tr.beq_iff, decide_eq_true_iff, Bool.not_eq_true', decide_eq_false_iff_not, not_true] at h3
    rcases h3 with h3 | h3
    · exact hne h3
    · exact h3
theorem stat_lt {nt : Nat} (h : statB nt ops = true) {j : Nat} (hj : j < ops.size) : ∀ t ∈ looks ops j, t < nt := by
  unfold statB at h
  rw [Bool.and_eq_true] at h
  have h1 := List.all_eq_true.1 h.2 j (List.mem_range.2 hj)
  exact fun t ht => by have := List.all_eq_true.1 h1 t ht; simpa [Nat.blt_eq] using this
theorem anc_is {L : Nat → Prop} (hL : ∀ q, L q → ∀ x ∈ depsAt ops q, L x) : ∀ (done S : List Nat), (∀ x ∈ S, L x) → ∀ x ∈ anc ops done S, L x
  | [], S, hS => hS
  | q :: r, S, hS => by
    rw [anc]
    cases hm : memN q S with
    | false => exact anc_is hL r S hS
    | true =>
      refine anc_is hL r _ fun x hx => ?_
      rcases List.mem_append.1 hx with hx | hx
      · exact hL q (hS q ((memN_iff _ _).1 hm)) x hx
      · exact hS x hx
/-! what an operation looks at -/
theorem ev1_congr {fr fr2 : Fr} {x : Operand} (h : ∀ t, x = .tmp t → fr.get t = fr2.get t) : ev1 fr x = ev1 fr2 x := by
  cases x with
  | tmp t => exact h t rfl
  | const v => rfl
  | global g => rfl
  | func f => rfl
theorem evL_congr {fr fr2 : Fr} : ∀ {l : List Operand}, (∀ x ∈ l, ev1 fr x = ev1 fr2 x) → evL fr l = evL fr2 l
  | [], _ => rfl
  | x :: l, h => by
    unfold evL
    rw [h x (List.mem_cons_self ..), evL_congr fun y hy => h y (List.mem_cons_of_mem _ hy)]
theorem evP_congr {fr fr2 : Fr} : ∀ {l : List (Nat × Operand)}, (∀ x ∈ l.map (·.2), ev1 fr x = ev1 fr2 x) → evP fr l = evP fr2 l
  | [], _ => rfl
  | (i, x) :: l, h => by
    unfold evP
    rw [h x (List.mem_cons_self ..), evP_congr fun y hy => h y (List.mem_cons_of_mem _ hy)]
theorem evO_congr {fr fr2 : Fr} {x : Option Operand} (h : ∀ y, x = some y → ev1 fr y = ev1 fr2 y) : evO fr x = evO fr2 x := by
  cases x with
  | none => rfl
  | some y => simp only [evO, h y rfl]
theorem operQ_congr {ty : Ty} {fr fr2 : Fr} {h : Hp} {o : Oper} (e : ∀ x ∈ o.op.operands, ev1 fr x = ev1 fr2 x) : operQ ty fr h o = operQ ty fr2 h o := by
  unfold operQ
  cases hop : o.op <;> rw [hop] at e <;> try rfl
  case move x => exact e x (by simp [Op.operands])
  case assign x => exact e x (by simp [Op.operands])
  case pick c x y => simp only [e c (by simp [Op.operands]), e x (by simp [Op.operands]), e y (by simp [Op.operands])]
  case build t ps => simp only [evP_congr (l := ps.toList) fun x hx => e x (by simp only [Op.operands]; simpa using hx)]
  case load t x => simp only [e x (by simp [Op.operands])]
  case nilCheck x => simp only [e x (by simp [Op.operands])]
  case binOp op t x y t2 => simp only [e x (by simp [Op.operands]), e y (by simp [Op.operands])]
  case unOp op t x => simp only [e x (by simp [Op.operands])]
  case convert s d x => simp only [e x (by simp [Op.operands])]
  case fieldAddr s x f => simp only [e x (by simp [Op.operands])]
  case field s x f => simp only [e x (by simp [Op.operands])]
  case indexAddr t x i => simp only [e x (by simp [Op.operands]), e i (by simp [Op.operands])]
  case index t x i => simp only [e x (by simp [Op.operands]), e i (by simp [Op.operands])]
  case slice t x lo hi mx =>
    cases mx with
    | some m =>
      cases hi with
      | none => rfl
      | some hi => simp only [e x (by simp [Op.operands]), evO_congr (x := lo) fun y hy => e y (by subst hy; simp [Op.operands]), e hi (by simp [Op.operands]), e m (by simp [Op.operands])]
    | none =>
      simp only [e x (by simp [Op.operands]), evO_congr (x := lo) fun y hy => e y (by subst hy; simp [Op.operands]), evO_congr (x := hi) fun y hy => e y (by subst hy; simp [Op.operands])]
  case extract x i => simp only [e x (by simp [Op.operands])]
  case makeFunc fn f c =>
    simp only [evL_congr (l := f.toList) fun x hx => e x (by simp [Op.operands] at hx ⊢; exact .inl hx), evL_congr (l := c.toList) fun x hx => e x (by simp [Op.operands] at hx ⊢; exact .inr hx)]
  case lookup t x i b => simp only [e x (by simp [Op.operands]), e i (by simp [Op.operands])]
  case entry x => simp only [e x (by simp [Op.operands])]
  case call c => simp only [evL_congr (l := c.args.toList) fun x hx => e x (by simp only [Op.operands, Call.operands]; simp at hx ⊢; exact .inr hx)]
theorem operN_congr {ty : Ty} {fr fr2 : Fr} {o : Oper} (e : ∀ x ∈ o.op.operands, ev1 fr x = ev1 fr2 x) : operN ty fr o = operN ty fr2 o := by
  unfold operN
  cases hop : o.op <;> rw [hop] at e <;> try rfl
  case box t x => simp only [e x (by simp [Op.operands])]
  case buildSlice t n ps => simp only [evP_congr (l := ps.toList) fun x hx => e x (by simp only [Op.operands]; simpa using hx)]
  case makeMap t r => cases r <;> rfl
  case makeSlice t x y => simp only [e x (by simp [Op.operands]), e y (by simp [Op.operands])]
theorem operE_congr {ty : Ty} {call : CallF} {fr fr2 : Fr} {h : Hp} {o : Oper} (e : ∀ x ∈ o.op.operands, ev1 fr x = ev1 fr2 x) : operE ty call fr h o = operE ty call fr2 h o := by
  unfold operE
  cases hop : o.op <;> rw [hop] at e <;> try rfl
  case box t x => simp only [e x (by simp [Op.operands])]
  case buildSlice t n ps => simp only [evP_congr (l := ps.toList) fun x hx => e x (by simp only [Op.operands]; simpa using hx)]
  case store t x y => simp only [e x (by simp [Op.operands]), e y (by simp [Op.operands])]
  case makeMap t r =>
    cases r with
    | none => rfl
    | some x => simp only [e x (by simp [Op.operands])]
  case range t x => simp only [e x (by simp [Op.operands])]
  case next x b => simp only [e x (by simp [Op.operands])]
  case makeSlice t x y => simp only [e x (by simp [Op.operands]), e y (by simp [Op.operands])]
  case mapUpdate t m k x => simp only [e m (by simp [Op.operands]), e k (by simp [Op.operands]), e x (by simp [Op.operands])]
  case insert t m k x => simp only [e m (by simp [Op.operands]), e k (by simp [Op.operands]), e x (by simp [Op.operands])]
  case call c =>
    have e1 : evL fr c.args.toList = evL fr2 c.args.toList := evL_congr fun x hx => e x (by simp only [Op.operands, Call.operands]; simp at hx ⊢; exact .inr hx)
    simp only [e1]
    cases hc : c.callee with
    | value f => simp only [e f (by simp [Op.operands, Call.operands, hc])]
    | invoke r n => rfl
    | builtin b => cases b <;> rfl
theorem opnd {o : Oper} {fr fr2 : Fr} (h : ∀ t ∈ o.looksAt ops, fr.get t = fr2.get t) : ∀ x ∈ o.op.operands, ev1 fr x = ev1 fr2 x := fun x hx => ev1_congr fun t e => h t (List.mem_append_left _ (List.mem_filterMap.2 ⟨x, by simpa using hx, by rw [e]⟩))
theorem wantd_congr {o : Oper} {fr fr2 : Fr} (h : ∀ t ∈ o.looksAt ops, fr.get t = fr2.get t) : wantd ops fr o = wantd ops fr2 o := by
  unfold wantd
  cases hg : o.guard with
  | none => rfl
  | some gw =>
    obtain ⟨g, want⟩ := gw
    dsimp only
    cases hp : ops.toList[g]? with
    | none => rfl
    | some p =>
      dsimp only
      cases hd : p.dst with
      | none => rfl
      | some d =>
        have : d ∈ o.looksAt ops := List.mem_append_right _ (by
          rw [hg]
          dsimp only
          rw [Array.getElem?_toList] at hp
          rw [hp]
          simp [hd])
        dsimp only
        rw [h d this]
/-- a frame cut down -/
def restrT (t : Tr Value) : List Nat → Tr Value
  | [] => .lf
  | k :: L => match t.get k with
    | some v => (restrT t L).put 40 k v
    | none => restrT t L
theorem get_restrT (t : Tr Value) : ∀ (L : List Nat), (∀ k ∈ L, k < 549755813888) → ∀ j, (restrT t L).get j = if j ∈ L then t.get j else none
  | [], _, j => by simp [restrT, Tr.get_lf]
  | k :: L, h, j => by
    have ih := get_restrT t L (fun k hk => h k (List.mem_cons_of_mem _ hk)) j
    have hk := h k (List.mem_cons_self ..)
    unfold restrT
    cases hv : t.get k with
    | some v =>
      dsimp only
      rw [Tr.get_put 40 _ _ _ _ (by omega), ih]
      by_cases e : j = k
      · subst e; simp [hv]
      · simp [e]
    | none =>
      dsimp only
      rw [ih]
      by_cases e : j = k
      · subst e
        by_cases m : j ∈ L
        · simp [m]
        · simp [m, hv]
      · simp [e]
def restr (fr : Fr) (L : List Nat) : Fr := ⟨restrT fr.t L, fr.ms⟩
end
end Go.Ev
