/- Single operations of the evaluator: values, numbers, addresses. -/
import Derived.Test.YtlchefdddgbohaaDoorEvC
import Derived.Laws.Sem
import Derived.Laws.Entries
import Derived.Laws.Cells
import Derived.Laws.StructEq
import GoSem.Dispatch
noncomputable section
namespace Go.Ev
set_option linter.unusedVariables false
set_option linter.unusedSimpArgs false

section
variable {P : Program} {o : Oper} {a : Act} {w w' : World} {K : Act → World → Prop} {Q : Exit → Act → World → Prop} {rd : Option Nat}
theorem wp_val (nd : ∀ c, o.op ≠ .defer c) {v : Value} (h : (execOp a.eval o).run P w = .ok (.value v) w') (hK : K (a.put o.dst v) w') : o.wpIn (FW rd) 0 P a w K Q := by
  refine ⟨fun _ _ => trivial, ?_⟩
  rw [Oper.semAt_eq _ _ _ nd, h]
  exact hK
theorem wp_skp (nd : ∀ c, o.op ≠ .defer c) (h : (execOp a.eval o).run P w = .ok .skip w') (hK : K (a.put o.dst undef) w') : o.wpIn (FW rd) 0 P a w K Q := by
  refine ⟨fun _ _ => trivial, ?_⟩
  rw [Oper.semAt_eq _ _ _ nd, h]
  exact hK
theorem run_v {s : Sem Value} {v : Value} (h : s.run P w = .ok v w') : (do pure (Next.value (← s)) : Sem Next).run P w = .ok (.value v) w' := by
  rw [Sem.run_bind, h]; rfl
theorem run_u {s : Sem Unit} (h : s.run P w = .ok () w') : (do s; pure Next.skip : Sem Next).run P w = .ok .skip w' := by
  rw [Sem.run_bind, h]; rfl
end

def memN (x : Nat) : List Nat → Bool
  | [] => false
  | y :: l => Nat.beq x y || memN x l
theorem memN_iff (x : Nat) : ∀ l, memN x l = true ↔ x ∈ l
  | [] => by simp [memN]
  | y :: l => by rw [memN, Bool.or_eq_true, memN_iff x l, List.mem_cons, Tr.beq_iff, decide_eq_true_iff]
/-- the types, and the structs that are held against each other -/
structure Ty where
  tr : Tr TypeInfo
  cm : List Nat
def Ty.get (ty : Ty) (t : Nat) : Option TypeInfo := ty.tr.get t
def EqT (P : Program) (t : Nat) : Bool := !P.eqGuardType P.depth t && !P.stoodInHeld t && (P.fieldsOf t).toList.all (·.name != "_")
structure TyOK (P : Program) (tt : Ty) : Prop where
  ty : ∀ t i, tt.get t = some i → P.info? t = some i
  cm : ∀ t, t ∈ tt.cm → EqT P t = true
section
variable (ty : Ty)
def desc (t : Nat) : Option TypeDesc :=
  match ty.get t with
  | some i => match i.desc with
    | .named _ u => match ty.get u with
      | some j => some j.desc
      | none => none
    | d => some d
  | none => none
def size (t : Nat) : Option Nat := match ty.get t with | some i => some i.size | none => none
def zero (t : Nat) : Option Value := match ty.get t with | some i => i.zero | none => none
def isAg (t : Nat) : Option Bool := match desc ty t with | some (.struct _) => some true | some (.array _ _) => some true | some _ => some false | none => none
end
section
variable {P : Program} {ty : Ty} (T : TyOK P ty) (w : World)
include T
theorem desc_is {t : Nat} {d : TypeDesc} (h : desc ty t = some d) : P.underlying t = some d := by
  unfold desc at h
  cases hi : ty.get t with
  | none => rw [hi] at h; cases h
  | some i =>
    rw [hi] at h
    dsimp only at h
    unfold Program.underlying
    rw [T.ty t i hi]
    cases i with
    | mk dd =>
      dsimp only at h ⊢
      cases dd <;> dsimp only at h ⊢ <;> first | (cases h; rfl; done) | skip
      case named nm u =>
        cases hu : ty.get u with
        | none => rw [hu] at h; cases h
        | some j =>
          rw [hu] at h
          cases h
          rw [T.ty u j hu]
          rfl
theorem size_is {t n : Nat} (h : size ty t = some n) : (sizeOf t).run P w = .ok n w := by
  unfold size at h
  cases hi : ty.get t with
  | none => rw [hi] at h; cases h
  | some i => rw [hi] at h; cases h; simp [sizeOf, typeInfo, T.ty t i hi]
theorem zero_is {t : Nat} {z : Value} (h : zero ty t = some z) : (zeroValue t).run P w = .ok z w := by
  unfold zero at h
  cases hi : ty.get t with
  | none => rw [hi] at h; cases h
  | some i => rw [hi] at h; dsimp only at h; simp [zeroValue, typeInfo, T.ty t i hi, h]
theorem isAg_is {t : Nat} {b : Bool} (h : isAg ty t = some b) : (isAgg t).run P w = .ok b w := by
  unfold isAg at h
  cases hd : desc ty t with
  | none => rw [hd] at h; cases h
  | some d =>
    rw [hd] at h
    have hu := desc_is T hd
    cases d <;> cases h <;> simp [isAgg, underlying, hu]
end

/-- what an operation's word says of a run -/
def Ok (P : Program) (sz : Nat → Nat) (w0 : World) (Φ : Fx) (R : Rn) (w : World) (h' : Hp) (v : Value) (s : Sem Value) : Prop :=
  ∃ R' w' v', Ext R R' ∧ HR sz w0 Φ R' w' h' ∧ VR R' v v' ∧ s.run P w = .ok v' w'
theorem Ok.same {P : Program} {sz : Nat → Nat} {w0 : World} {Φ : Fx} {R : Rn} {w : World} {h : Hp} {v v' : Value} {s : Sem Value} (hh : HR sz w0 Φ R w h) (hv : VR R v v') (hs : s.run P w = .ok v' w) : Ok P sz w0 Φ R w h v s :=
  ⟨R, w, v', .refl R, hh, hv, hs⟩

/-- the same of one that changes nothing -/
def Ok0 (P : Program) (R : Rn) (w : World) (v : Value) (s : Sem Value) : Prop := ∃ v', VR R v v' ∧ s.run P w = .ok v' w
theorem Ok0.same {P : Program} {sz : Nat → Nat} {w0 : World} {Φ : Fx} {R : Rn} {w : World} {h : Hp} {v v' : Value} {s : Sem Value} (hh : HR sz w0 Φ R w h) (hv : VR R v v') (hs : s.run P w = .ok v' w) : Ok0 P R w v s := ⟨v', hv, hs⟩
theorem Ok0.ok {P : Program} {sz : Nat → Nat} {w0 : World} {Φ : Fx} {R : Rn} {w : World} {h : Hp} {v : Value} {s : Sem Value} (o : Ok0 P R w v s) (hh : HR sz w0 Φ R w h) : Ok P sz w0 Φ R w h v s := by
  obtain ⟨v', h1, h2⟩ := o
  exact .same hh h1 h2
theorem VR.int {R : Rn} {k : IntKind} {n : Int} {v : Value} (h : VR R (.int k n) v) : v = .int k n := by
  rcases h with (h | ⟨_, _, h, _⟩) | ⟨_, _, h, _⟩
  · cases h; rfl
  · cases h
  · cases h
theorem VR.str {R : Rn} {s : ByteArray} {v : Value} (h : VR R (.string s) v) : v = .string s := by
  rcases h with (h | ⟨_, _, h, _⟩) | ⟨_, _, h, _⟩
  · cases h; rfl
  · cases h
  · cases h
theorem VR.ptr {R : Rn} {a : Addr} {v : Value} (h : VR R (.pointer (some a)) v) : v = .pointer (some (ra R a)) ∧ a.spot = none ∧ Nm R a.block := by
  rcases h with (h | ⟨_, _, h, _⟩) | ⟨_, _, h, _⟩
  · cases h with
    | lit _ hl => cases hl
    | ptr _ h0 hb => exact ⟨rfl, h0, hb⟩
  · cases h
  · cases h

/-- two numbers -/
def o_int (op : BinOp) (t : Nat) (x y : Value) : Option Value :=
  match x, y with
  | .int k a, .int l b => match binOp op t (.int k a) (.int l b) with
    | .pure v => bif lit v then some v else none
    | _ => none
  | .float k a, .float l b => match binOp op t (.float k a) (.float l b) with
    | .pure v => bif lit v then some v else none
    | _ => none
  | .complex k a b, .complex l c d => match binOp op t (.complex k a b) (.complex l c d) with
    | .pure v => bif lit v then some v else none
    | _ => none
  | _, _ => none
theorem VR.flt {R : Rn} {k : FloatKind} {n : Nat} {v : Value} (h : VR R (.float k n) v) : v = .float k n := by
  rcases h with (h | ⟨_, _, h, _⟩) | ⟨_, _, h, _⟩
  · cases h; rfl
  · cases h
  · cases h
theorem VR.cpx {R : Rn} {k : FloatKind} {n m : Nat} {v : Value} (h : VR R (.complex k n m) v) : v = .complex k n m := by
  rcases h with (h | ⟨_, _, h, _⟩) | ⟨_, _, h, _⟩
  · cases h; rfl
  · cases h
  · cases h
theorem o_int_is {P : Program} {sz : Nat → Nat} {w0 : World} {Φ : Fx} {R : Rn} {w : World} {h : Hp} (hh : HR sz w0 Φ R w h) {op : BinOp} {t : Nat} {ox oy : Operand} {x y x' y' v : Value} (hx : VR R x x') (hy : VR R y y')
    (ho : o_int op t x y = some v) : Ok0 P R w v (do eqGuard op t ox oy x' y'; binOp op t x' y') := by
  unfold o_int at ho
  split at ho
  · rename_i k a l b
    rw [hx.int, hy.int]
    split at ho
    · rename_i u hu
      cases hl : lit u with
      | false => rw [hl] at ho; cases ho
      | true =>
        rw [hl] at ho
        cases ho
        refine .same hh (.lit hl) ?_
        have hg : (eqGuard op t ox oy (.int k a) (.int l b)).run P w = .ok () w := by
          unfold eqGuard
          cases op <;> rfl
        rw [Sem.run_bind, hg]
        change (binOp op t (.int k a) (.int l b)).run P w = _
        rw [hu]
        rfl
    · cases ho
  · rename_i k a l b
    rw [hx.flt, hy.flt]
    split at ho
    · rename_i u hu
      cases hl : lit u with
      | false => rw [hl] at ho; cases ho
      | true =>
        rw [hl] at ho
        cases ho
        refine .same hh (.lit hl) ?_
        have hg : (eqGuard op t ox oy (.float k a) (.float l b)).run P w = .ok () w := by
          unfold eqGuard
          cases op <;> rfl
        rw [Sem.run_bind, hg]
        change (binOp op t (.float k a) (.float l b)).run P w = _
        rw [hu]
        rfl
    · cases ho
  · rename_i k a b l c d
    rw [hx.cpx, hy.cpx]
    split at ho
    · rename_i u hu
      cases hl : lit u with
      | false => rw [hl] at ho; cases ho
      | true =>
        rw [hl] at ho
        cases ho
        refine .same hh (.lit hl) ?_
        have hg : (eqGuard op t ox oy (.complex k a b) (.complex l c d)).run P w = .ok () w := by
          unfold eqGuard
          cases op <;> rfl
        rw [Sem.run_bind, hg]
        change (binOp op t (.complex k a b) (.complex l c d)).run P w = _
        rw [hu]
        rfl
    · cases ho
  · cases ho
/-- two texts -/
def less : List UInt8 → List UInt8 → Bool
  | _, [] => false
  | [], _ :: _ => true
  | a :: x, b :: y => Nat.blt a.toNat b.toNat || (Nat.beq a.toNat b.toNat && less x y)
def o_str (op : BinOp) (x y : Value) : Option Value :=
  match x, y with
  | .string a, .string b =>
    let x := a.data.toList
    let y := b.data.toList
    match op with
    | .add => bif Nat.ble (x.length + y.length) 1000000 then some (.string ⟨(x ++ y).toArray⟩) else none
    | .eql => some (.bool (same x y))
    | .neq => some (.bool (!same x y))
    | .lss => some (.bool (less x y))
    | .leq => some (.bool (less x y || same x y))
    | .gtr => some (.bool (!(less x y || same x y)))
    | .geq => some (.bool (!less x y))
    | _ => none
  | _, _ => none
/-- addresses -/
def fld (ty : Ty) (s f : Nat) : Option Field := match desc ty s with
  | some (.struct fs) => fs.toList[f]?
  | _ => none
def o_fieldAddr (ty : Ty) (s : Nat) (x : Value) (f : Nat) : Option Value :=
  match x, fld ty s f with
  | .pointer (some a), some g => match size ty g.type with
    | some n => bif Nat.beq n 0 then none else some (.pointer (some ⟨a.block, a.off + g.offset, none⟩))
    | none => none
  | _, _ => none
theorem ra_add {R : Rn} (a : Addr) (n : Nat) : (ra R a).add n = ra R ⟨a.block, a.off + n, none⟩ := by
  unfold ra Addr.add
  split
  · rename_i h
    simp_all
  · rfl
theorem o_fieldAddr_is {P : Program} {ty : Ty} (T : TyOK P ty) {sz : Nat → Nat} {w0 : World} {Φ : Fx} {R : Rn} {w : World} {h : Hp} (hh : HR sz w0 Φ R w h) {s : Nat} {x x' : Value} {f : Nat} {v : Value} (hx : VR R x x')
    (ho : o_fieldAddr ty s x f = some v) : Ok0 P R w v (Instr.fieldAt s x' f) := by
  unfold o_fieldAddr at ho
  split at ho
  · rename_i a g hg
    obtain ⟨rfl, hs, hb⟩ := hx.ptr
    unfold fld at hg
    split at hg
    · rename_i fs hd
      have hu := desc_is T hd
      cases hz : size ty g.type with
      | none => rw [hz] at ho; cases ho
      | some n =>
        rw [hz] at ho
        dsimp only at ho
        cases hn : Nat.beq n 0 with
        | true => rw [hn] at ho; cases ho
        | false =>
          rw [hn] at ho
          cases ho
          have hn0 : n ≠ 0 := Nat.ne_of_beq_eq_false hn
          refine .same hh (.inl (.inl (.ptr ⟨a.block, a.off + g.offset, none⟩ rfl hb))) ?_
          rw [Array.getElem?_toList] at hg
          unfold Instr.fieldAt
          simp [underlying, hu, hg, Instr.sureAddr, fieldPlace, size_is T w hz, hn0, ra_add]
    · cases hg
  · cases ho
end Go.Ev
