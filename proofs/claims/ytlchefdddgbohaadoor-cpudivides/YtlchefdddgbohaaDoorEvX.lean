/- The evaluator whole, and that it is sound. -/
import Derived.Test.YtlchefdddgbohaaDoorEvJ
noncomputable section
namespace Go.Ev
open Go.RowKit
set_option linter.unusedVariables false
set_option linter.unusedSimpArgs false
def evL (fr : Fr) : List Operand → Option (List Value)
  | [] => some []
  | x :: r => match ev1 fr x, evL fr r with
    | some v, some l => some (v :: l)
    | _, _ => none
def evP (fr : Fr) : List (Nat × Operand) → Option (List (Nat × Value))
  | [] => some []
  | (i, x) :: r => match ev1 fr x, evP fr r with
    | some v, some l => some ((i, v) :: l)
    | _, _ => none
def evO (fr : Fr) : Option Operand → Option (Option Value)
  | none => some none
  | some x => match ev1 fr x with
    | some v => some (some v)
    | none => none
def o_bin (ty : Ty) (op : BinOp) (t : Nat) (a b : Value) : Option Value :=
  match a with
  | .int _ _ => match o_int op t a b with
    | some v => some v
    | none => none
  | .float _ _ => match o_int op t a b with
    | some v => some v
    | none => none
  | .complex _ _ _ => match o_int op t a b with
    | some v => some v
    | none => none
  | .string _ => o_str op a b
  | _ => match o_eqv ty t a b with
    | some c => eqB op c
    | none => none
def o_appendY (ty : Ty) (h : Hp) (t t2 : Nat) (x y : Value) : Option (Value × Hp) := match y with
  | .string _ => o_appendS ty h t t2 x y
  | _ => o_appendZ ty h t t2 x y
def isCon : Operand → Bool
  | .const _ => true
  | _ => false
def o_nilI (ty : Ty) (op : BinOp) (t : Nat) : Option Value := match desc ty t with
  | some (.interface _) => eqB op true
  | _ => none
def o_lenA (ty : Ty) (h : Hp) (t : Nat) (x : Value) : Option Value := match x with
  | .map _ => o_lenM h ty t x
  | _ => o_len ty t x
def operQ (ty : Ty) (fr : Fr) (h : Hp) (o : Oper) : Option Value :=
  match o.op with
  | .move x => (ev1 fr x)
  | .assign x => (ev1 fr x)
  | .pick c a b => match ev1 fr c with
    | some (.bool t) => (bif t then ev1 fr a else ev1 fr b)
    | _ => none
  | .build t ps => match evP fr ps.toList with
    | some l => (o_build ty t l)
    | none => none
  | .load t a => match ev1 fr a with
    | some v => (o_load ty h t v)
    | none => none
  | .nilCheck x => match ev1 fr x with
    | some (.pointer (some a)) => some (.pointer (some a))
    | some (.func (.func g) f c) => some (.func (.func g) f c)
    | some (.func (.yield g) f c) => some (.func (.yield g) f c)
    | _ => none
  | .binOp op t x y _ => match ev1 fr x, ev1 fr y with
    | some .nilIface, some .nilIface => bif isCon x || isCon y then o_nilI ty op t else none
    | some a, some b => (o_bin ty op t a b)
    | _, _ => none
  | .makeFunc fn f c => match evL fr f.toList, evL fr c.toList with
    | some a, some b => o_makeFunc fn a b
    | _, _ => none
  | .lookup t x i b => match ev1 fr x, ev1 fr i with
    | some m, some k => o_lookup ty h t m k b
    | _, _ => none
  | .entry x => match ev1 fr x with
    | some i => o_entry h i
    | none => none
  | .unOp op _ x => match ev1 fr x with
    | some a => (o_un op a)
    | none => none
  | .convert s d x => match ev1 fr x with
    | some a => (o_convX ty h s d a)
    | none => none
  | .fieldAddr s x f => match ev1 fr x with
    | some a => (o_fieldAddr ty s a f)
    | none => none
  | .field s x f => match ev1 fr x with
    | some a => (o_field ty s a f)
    | none => none
  | .indexAddr t x i => match ev1 fr x, ev1 fr i with
    | some a, some b => (o_indexAddr ty t a b)
    | _, _ => none
  | .index t x i => match ev1 fr x, ev1 fr i with
    | some a, some b => (o_indexX ty t a b)
    | _, _ => none
  | .slice t x lo hi none => match ev1 fr x, evO fr lo, evO fr hi with
    | some a, some l, some u => (o_sliceX ty t a l u)
    | _, _, _ => none
  | .slice t x lo (some hi) (some m) => match ev1 fr x, evO fr lo, ev1 fr hi, ev1 fr m with
    | some a, some l, some u, some k => (o_slice3 ty t a l u k)
    | _, _, _, _ => none
  | .extract x i => match ev1 fr x with
    | some a => (o_extract a i)
    | none => none
  | .call c => match c.callee with
    | .builtin .len => match evL fr c.args.toList, c.argTypes.toList with
      | some [x], [t] => o_lenA ty h t x
      | _, _ => none
    | .builtin .cap => match evL fr c.args.toList, c.argTypes.toList with
      | some [x], [t] => o_cap ty t x
      | _, _ => none
    | .builtin .min => match evL fr c.args.toList with
      | some [x, y] => o_min x y
      | _ => none
    | .builtin .complex => match evL fr c.args.toList with
      | some [x, y] => o_cpx x y
      | _ => none
    | .builtin .real => match evL fr c.args.toList with
      | some [x] => o_re x
      | _ => none
    | .builtin .imag => match evL fr c.args.toList with
      | some [x] => o_im x
      | _ => none
    | _ => none
  | _ => none
def operE (ty : Ty) (call : CallF) (fr : Fr) (h : Hp) (o : Oper) : Option (Value × Hp) :=
  match o.op with
  | .alloc e => o_alloc ty h e
  | .box e x => match ev1 fr x with
    | some v => o_box h e v
    | none => none
  | .buildSlice t len ps => match evP fr ps.toList with
    | some l => o_buildSlice ty h t len l
    | none => none
  | .store t a x => match ev1 fr a, ev1 fr x with
    | some p, some v => match o_store ty h t p v with
      | some h' => some (undef, h')
      | none => none
    | _, _ => none
  | .makeMap t none => o_makeMap h
  | .makeMap t (some x) => match ev1 fr x, desc ty t with
    | some (.int _ _), some (.map _ _) => o_makeMap h
    | _, _ => none
  | .range t x => match ev1 fr x with
    | some m => o_range ty h t m
    | none => none
  | .next x b => match ev1 fr x with
    | some i => bif b then none else o_next h i
    | none => none
  | .makeSlice t l c => match ev1 fr l, ev1 fr c with
    | some a, some b => o_makeSlice ty h t a b
    | _, _ => none
  | .mapUpdate t m k x => match ev1 fr m, ev1 fr k, ev1 fr x with
    | some a, some b, some v => match o_mapUpdate ty h t a b v with
      | some h' => some (undef, h')
      | none => none
    | _, _, _ => none
  | .insert t m k x => match ev1 fr m, ev1 fr k, ev1 fr x with
    | some a, some b, some v => match o_mapUpdate ty h t a b v with
      | some h' => some (undef, h')
      | none => none
    | _, _, _ => none
  | .call c => match c.callee with
    | .value f => match ev1 fr f, evL fr c.args.toList with
      | some (.func (.func g) fs cs), some l => call (.fn g) (fs.toList ++ l ++ cs.toList) h
      | some (.func (.yield i) fs cs), some l => bif fs.isEmpty && cs.isEmpty then call (.yl i) l h else none
      | _, _ => none
    | .builtin .append => match evL fr c.args.toList, c.argTypes.toList with
      | some [x, y], [t, t2] => bif Nat.beq t t2 then o_appendX ty h t x y else o_appendY ty h t t2 x y
      | _, _ => none
    | .builtin .copy => match evL fr c.args.toList, c.argTypes.toList with
      | some [x, y], [t, _] => o_copy ty h t x y
      | _, _ => none
    | _ => none
  | _ => none
def oper (ty : Ty) (call : CallF) (fr : Fr) (h : Hp) (o : Oper) : Option (Value × Hp) :=
  match operQ ty fr h o with
  | some v => some (v, h)
  | none => operE ty call fr h o

section
variable {P : Program} {ty : Ty} {sz : Nat → Nat} {w0 : World} {Φ : Fx}
theorem evL_is {R : Rn} {rd : Option Nat} {nt : Nat} {fr : Fr} {a : Act} (hf : FR R rd nt fr a) : ∀ (l : List Operand) (vs : List Value), evL fr l = some vs → A2 (VR R) vs (l.map a.eval)
  | [], vs, h => by cases h; exact ⟨rfl, fun i v hv => by cases hv⟩
  | x :: r, vs, h => by
    unfold evL at h
    split at h
    · rename_i v l hv hl
      cases h
      obtain ⟨v', h1, h2⟩ := ev1_is hf hv
      have ih := evL_is hf r l hl
      refine ⟨by simp [ih.1], fun i u hu => ?_⟩
      cases i with
      | zero => cases hu; exact ⟨v', by simp [h1], h2⟩
      | succ i => exact ih.2 i u hu
    · cases h
theorem evP_is {R : Rn} {rd : Option Nat} {nt : Nat} {fr : Fr} {a : Act} (hf : FR R rd nt fr a) : ∀ (l : List (Nat × Operand)) (vs : List (Nat × Value)), evP fr l = some vs → PR R vs (l.map fun p => (p.1, a.eval p.2))
  | [], vs, h => by cases h; exact .nil
  | (i, x) :: r, vs, h => by
    unfold evP at h
    split at h
    · rename_i v l hv hl
      cases h
      obtain ⟨v', h1, h2⟩ := ev1_is hf hv
      rw [List.map_cons]
      dsimp only
      rw [h1]
      exact .cons i v v' _ _ h2 (evP_is hf r l hl)
    · cases h
theorem evO_is {R : Rn} {rd : Option Nat} {nt : Nat} {fr : Fr} {a : Act} (hf : FR R rd nt fr a) {x : Option Operand} {v : Option Value} (h : evO fr x = some v) : OV R v (x.map a.eval) := by
  unfold evO at h
  split at h
  · cases h; exact .inl ⟨rfl, rfl⟩
  · split at h
    · rename_i x v hv
      cases h
      obtain ⟨v', h1, h2⟩ := ev1_is hf hv
      exact .inr ⟨_, _, rfl, by simp [h1], h2⟩
    · cases h
theorem o_bin_is (T : TyOK P ty) {R : Rn} {w : World} {h : Hp} (hh : HR sz w0 Φ R w h) {op : BinOp} {t : Nat} {ox oy : Operand} {x y x' y' v : Value} (hx : VR R x x') (hy : VR R y y')
    (ho : o_bin ty op t x y = some v) : Ok0 P R w v (do eqGuard op t ox oy x' y'; binOp op t x' y') := by
  unfold o_bin at ho
  split at ho
  · split at ho
    · rename_i u hu
      cases ho
      exact o_int_is hh hx hy hu
    · cases ho
  · split at ho
    · rename_i u hu
      cases ho
      exact o_int_is hh hx hy hu
    · cases ho
  · split at ho
    · rename_i u hu
      cases ho
      exact o_int_is hh hx hy hu
    · cases ho
  · exact o_str_is hh hx hy ho
  · rename_i hi hf hcx hs
    split at ho
    · rename_i c hc
      exact o_eq_is T hh hx hy (fun k n e => hi k n e) (fun s e => hs s e) hc ho
    · cases ho
theorem parts_map (a : Act) (ps : Array (Nat × Operand)) : (ps.map fun (i, x) => (i, a.eval x)).toList = ps.toList.map fun p => (p.1, a.eval p.2) := by
  rw [Array.toList_map]
theorem list1 {r : Value → Value → Prop} {x : Value} {l : List Value} (h : A2 r [x] l) : ∃ x', l = [x'] ∧ r x x' := by
  obtain ⟨h1, h2⟩ := h
  match l, h1 with
  | [x'], _ =>
    obtain ⟨v, h3, h4⟩ := h2 0 x rfl
    cases h3
    exact ⟨x', rfl, h4⟩
theorem list2 {r : Value → Value → Prop} {x y : Value} {l : List Value} (h : A2 r [x, y] l) : ∃ x' y', l = [x', y'] ∧ r x x' ∧ r y y' := by
  obtain ⟨h1, h2⟩ := h
  match l, h1 with
  | [x', y'], _ =>
    obtain ⟨v, h3, h4⟩ := h2 0 x rfl
    obtain ⟨u, h5, h6⟩ := h2 1 y rfl
    cases h3
    cases h5
    exact ⟨x', y', rfl, h4, h6⟩
/-- what one operation does, said of its run -/
def OpR (P : Program) (sz : Nat → Nat) (w0 : World) (Φ : Fx) (R : Rn) (w : World) (h' : Hp) (v : Value) (r : Result Next) : Prop :=
  (∃ R' w' v', Ext R R' ∧ HR sz w0 Φ R' w' h' ∧ VR R' v v' ∧ (r = .ok (.value v') w' ∨ (r = .ok .skip w' ∧ v' = undef))) ∨
  (∃ g args, r = .ok (.enter g args) w ∧ ∀ W : Ending → World → Prop, (∀ R' w' v', Ext R R' → HR sz w0 Φ R' w' h' → VR R' v v' → W (.returned v') w') → Calls P g args w W) ∨
  ∃ l f tmps as bd, r = .ok (.round l f tmps as bd) w ∧ ∀ W : Ending → World → Prop, (∀ R' w' v', Ext R R' → HR sz w0 Φ R' w' h' → VR R' v v' → W (.returned v') w') → RoundIn Fence.wide 0 P l f tmps as bd w W
theorem OpR.wp {R : Rn} {w : World} {h' : Hp} {v : Value} {o : Oper} {a : Act} (nd : ∀ c, o.op ≠ .defer c) (hr : OpR P sz w0 Φ R w h' v ((execOp a.eval o).run P w)) {rd : Option Nat} {K : Act → World → Prop} {Q : Exit → Act → World → Prop}
    (hK : ∀ R' w' v', Ext R R' → HR sz w0 Φ R' w' h' → VR R' v v' → K (a.put o.dst v') w') : o.wpIn (FW rd) 0 P a w K Q := by
  rcases hr with ⟨R', w', v', h1, h2, h3, h4 | ⟨h4, rfl⟩⟩ | ⟨g, args, h4, h5⟩ | ⟨l, f, tmps, as, bd, h4, h5⟩
  · exact wp_val nd h4 (hK R' w' v' h1 h2 h3)
  · exact wp_skp nd h4 (hK R' w' _ h1 h2 h3)
  · refine ⟨fun _ _ => trivial, ?_⟩
    rw [Oper.semAt_eq _ _ _ nd, h4]
    refine ⟨fun hx => (by cases hx), callsIn_wide.2 (h5 (fun
      | .returned v, w'' => K (a.put o.dst v) w''
      | .panicked chain, w'' => Q (.panic chain) a w''
      | .outgrown, _ => LetsOut Q) fun R' w' v' h1 h2 h3 => hK R' w' v' h1 h2 h3)⟩
  · refine ⟨fun _ _ => trivial, ?_⟩
    rw [Oper.semAt_eq _ _ _ nd, h4]
    exact ⟨fun hx => (by cases hx), h5 (fun
      | .returned v, w'' => K (a.put o.dst v) w''
      | .panicked chain, w'' => Q (.panic chain) a w''
      | .outgrown, _ => LetsOut Q) fun R' w' v' h1 h2 h3 => hK R' w' v' h1 h2 h3⟩
theorem o_lenA_is (T : TyOK P ty) {R : Rn} {w : World} {h : Hp} (hh : HR sz w0 Φ R w h) {t u : Nat} {x x' v : Value} (hx : VR R x x') (ho : o_lenA ty h t x = some v) : Ok0 P R w v (Builtin.len_ #[t] u #[x']) := by
  unfold o_lenA at ho
  split at ho
  · exact o_lenM_is T hh hx ho
  · exact o_len_is T hh hx ho
theorem o_nilI_is (T : TyOK P ty) {R : Rn} {w : World} {h : Hp} (hh : HR sz w0 Φ R w h) {op : BinOp} {t : Nat} {ox oy : Operand} (hc : (isCon ox || isCon oy) = true) {v : Value} (ho : o_nilI ty op t = some v) :
    Ok0 P R w v (do eqGuard op t ox oy .nilIface .nilIface; binOp op t .nilIface .nilIface) := by
  unfold o_nilI at ho
  split at ho
  · rename_i ms hd
    have hu := desc_is T hd
    have hg : (eqGuard op t ox oy .nilIface .nilIface).run P w = .ok () w := by
      cases ox <;> cases oy <;> first | (cases hc; done) | (cases op <;> simp [eqGuard])
    have he : (Op.equal t .nilIface .nilIface).run P w = .ok true w := by
      have key : ∀ d, (Op.equalIn (d + 1) t .nilIface .nilIface).run P w = .ok true w := fun d => by simp [Op.equalIn, run_underlying hu]
      exact key 9999
    cases op <;> cases ho
    · refine .same hh (.lit rfl) ?_
      rw [Sem.run_bind, hg]
      simp [binOp, he]
    · refine .same hh (.lit rfl) ?_
      rw [Sem.run_bind, hg]
      simp [binOp, he]
  · cases ho
theorem VR.func2 {R : Rn} {g : Nat} {f c : Array Value} {v : Value} (h : VR R (.func (.func g) f c) v) : ∃ f' c', v = .func (.func g) f' c' ∧ A2 (VR R) f.toList f'.toList ∧ A2 (VR R) c.toList c'.toList := by
  have up : ∀ {l m : List Value}, A2 (BR R) l m → A2 (VR R) l m := fun h => h.mono fun _ _ h => .inl (.inl h.sr)
  rcases h with (h | ⟨_, _, h, _⟩) | ⟨_, _, h, _⟩
  · cases h with
    | lit _ hl =>
      have hl2 : (f.isEmpty && c.isEmpty) = true := hl
      rw [Bool.and_eq_true, Array.isEmpty_iff, Array.isEmpty_iff] at hl2
      obtain ⟨rfl, rfl⟩ := hl2
      exact ⟨#[], #[], rfl, ⟨rfl, fun i v hv => by simp at hv⟩, ⟨rfl, fun i v hv => by simp at hv⟩⟩
    | fn _ _ _ f' c' h1 h2 => exact ⟨f', c', rfl, up h1, up h2⟩
  · cases h
  · cases h
theorem VR.yld {R : Rn} {i : Nat} {f c : Array Value} {v : Value} (h : VR R (.func (.yield i) f c) v) : v = .func (.yield (R.ρ i)) #[] #[] ∧ R.D i ∧ f = #[] ∧ c = #[] := by
  rcases h with (h | ⟨_, _, h, _⟩) | ⟨_, _, h, _⟩
  · cases h with
    | lit _ hl => cases hl
    | yl _ hD => exact ⟨rfl, hD, rfl, rfl⟩
  · cases h
  · cases h
theorem A2.app {r : Value → Value → Prop} {a a' b b' : List Value} (h : A2 r a a') (k : A2 r b b') : A2 r (a ++ b) (a' ++ b') := ⟨by simp [h.1, k.1], fun j v hv => by
  rw [List.getElem?_append] at hv ⊢
  rw [← h.1]
  by_cases c : j < a.length
  · rw [if_pos c] at hv ⊢; exact h.2 j v hv
  · rw [if_neg c] at hv ⊢; exact k.2 _ v hv⟩
theorem o_appendY_is (T : TyOK P ty) (hS : SzOK ty sz) {R : Rn} {w : World} {h : Hp} (hh : HR sz w0 Φ R w h) {t t2 u : Nat} {x y x' y' v : Value} {h' : Hp} (hx : VR R x x') (hy : VR R y y') (ho : o_appendY ty h t t2 x y = some (v, h')) :
    Ok P sz w0 Φ R w h' v (Builtin.append_ #[t, t2] u #[x', y']) := by
  unfold o_appendY at ho
  split at ho
  · exact o_appendS_is T hS hh hx hy ho
  · exact o_appendZ_is T hS hh hx hy ho
theorem operQ_is (T : TyOK P ty) {fr : Fr} {h : Hp} {o : Oper} {v : Value} (he : operQ ty fr h o = some v) {R : Rn} {w : World} {rd : Option Nat} {nt : Nat} {a : Act} (hh : HR sz w0 Φ R w h) (hf : FR R rd nt fr a) :
    ∃ v', VR R v v' ∧ (execOp a.eval o).run P w = .ok (.value v') w := by
  unfold operQ at he
  have via : ∀ {s : Sem Value}, execOp a.eval o = (do pure (Next.value (← s))) → Ok0 P R w v s → ∃ v', VR R v v' ∧ (execOp a.eval o).run P w = .ok (.value v') w := fun e ⟨v', h1, h2⟩ => ⟨v', h1, by rw [e]; exact run_v h2⟩
  have one : ∀ {x : Operand} {u : Value}, ev1 fr x = some u → ∃ u', a.eval x = u' ∧ VR R u u' := fun hx => ev1_is hf hx
  cases hop : o.op <;> rw [hop] at he <;> (try dsimp only at he) <;> first | (cases he; done) | skip
  case move x =>
    have h1 := he
    obtain ⟨v', h2, h3⟩ := one h1
    exact ⟨v', h3, (by unfold execOp; rw [hop]; dsimp only; rw [h2]; rfl)⟩
  case assign x =>
    have h1 := he
    obtain ⟨v', h2, h3⟩ := one h1
    exact ⟨v', h3, (by unfold execOp; rw [hop]; dsimp only; rw [h2]; rfl)⟩
  case pick c x y =>
    split at he
    · rename_i t hc
      have h1 := he
      obtain ⟨c', h2, h3⟩ := one hc
      rw [h3.bool] at h2
      cases t with
      | true =>
        obtain ⟨v', h4, h5⟩ := one h1
        exact ⟨v', h5, (by unfold execOp; rw [hop]; simp [h2, asBool, h4])⟩
      | false =>
        obtain ⟨v', h4, h5⟩ := one h1
        exact ⟨v', h5, (by unfold execOp; rw [hop]; simp [h2, asBool, h4])⟩
    · cases he
  case build t ps =>
    split at he
    · rename_i l hl
      have h1 := he
      exact via (s := Instr.build t (ps.map fun (i, x) => (i, a.eval x))) (by unfold execOp; rw [hop]) (o_build_is T hh (by rw [parts_map]; exact evP_is hf _ _ hl) h1)
    · cases he
  case load t x =>
    split at he
    · rename_i u hu
      have h1 := he
      obtain ⟨u', h2, h3⟩ := one hu
      exact via (s := Instr.loadAt t u') (by unfold execOp; rw [hop]; dsimp only; rw [h2]) (o_load_is T hh h3 h1)
    · cases he
  case nilCheck x =>
    split at he
    · rename_i p hp
      cases he
      obtain ⟨p', h2, h3⟩ := one hp
      have h4 := h3.ptr.1
      exact ⟨p', h3, (by unfold execOp; rw [hop]; dsimp only; rw [h2, h4]; rfl)⟩
    · rename_i g f c hp
      cases he
      obtain ⟨p', h2, h3⟩ := one hp
      obtain ⟨f', c', h4, _, _⟩ := h3.func2
      exact ⟨p', h3, (by unfold execOp; rw [hop]; dsimp only; rw [h2, h4]; rfl)⟩
    · rename_i g f c hp
      cases he
      obtain ⟨p', h2, h3⟩ := one hp
      obtain ⟨h4, _, _, _⟩ := h3.yld
      exact ⟨p', h3, (by unfold execOp; rw [hop]; dsimp only; rw [h2, h4]; rfl)⟩
    · cases he
  case binOp op t x y ty2 =>
    split at he
    · rename_i hp hu
      cases hcn : isCon x || isCon y with
      | false => rw [hcn] at he; cases he
      | true =>
        rw [hcn] at he
        dsimp only [cond_true] at he
        obtain ⟨p', h2, h3⟩ := one hp
        obtain ⟨u', h4, h5⟩ := one hu
        have e1 : p' = .nilIface := h3.of_lit rfl (fun e => by cases e)
        have e2 : u' = .nilIface := h5.of_lit rfl (fun e => by cases e)
        rw [e1] at h2
        rw [e2] at h4
        exact via (s := do eqGuard op t x y .nilIface .nilIface; binOp op t .nilIface .nilIface) (by unfold execOp; rw [hop]; dsimp only; rw [h2, h4]) (o_nilI_is T hh hcn he)
    · rename_i p u hp hu
      have h1 := he
      obtain ⟨p', h2, h3⟩ := one hp
      obtain ⟨u', h4, h5⟩ := one hu
      exact via (s := do eqGuard op t x y p' u'; binOp op t p' u') (by unfold execOp; rw [hop]; dsimp only; rw [h2, h4]) (o_bin_is T hh h3 h5 h1)
    · cases he
  case unOp op t x =>
    split at he
    · rename_i u hu
      have h1 := he
      obtain ⟨u', h2, h3⟩ := one hu
      exact via (s := Op.unary op u') (by unfold execOp; rw [hop]; dsimp only; rw [h2]) (o_un_is hh h3 h1)
    · cases he
  case convert s d x =>
    split at he
    · rename_i u hu
      have h1 := he
      obtain ⟨u', h2, h3⟩ := one hu
      exact via (s := convert s d u') (by unfold execOp; rw [hop]; dsimp only; rw [h2]) (o_convX_is T hh h3 h1)
    · cases he
  case fieldAddr s x f =>
    split at he
    · rename_i u hu
      have h1 := he
      obtain ⟨u', h2, h3⟩ := one hu
      exact via (s := Instr.fieldAt s u' f) (by unfold execOp; rw [hop]; dsimp only; rw [h2]) (o_fieldAddr_is T hh h3 h1)
    · cases he
  case field s x f =>
    split at he
    · rename_i u hu
      have h1 := he
      obtain ⟨u', h2, h3⟩ := one hu
      exact via (s := Instr.field s u' f) (by unfold execOp; rw [hop]; dsimp only; rw [h2]) (o_field_is T hh h3 h1)
    · cases he
  case indexAddr t x i =>
    split at he
    · rename_i p u hp hu
      have h1 := he
      obtain ⟨p', h2, h3⟩ := one hp
      obtain ⟨u', h4, h5⟩ := one hu
      exact via (s := Instr.indexAt t p' u') (by unfold execOp; rw [hop]; dsimp only; rw [h2, h4]) (o_indexAddr_is T hh h3 h5 h1)
    · cases he
  case index t x i =>
    split at he
    · rename_i p u hp hu
      have h1 := he
      obtain ⟨p', h2, h3⟩ := one hp
      obtain ⟨u', h4, h5⟩ := one hu
      exact via (s := Instr.index t p' u') (by unfold execOp; rw [hop]; dsimp only; rw [h2, h4]) (o_indexX_is T hh h3 h5 h1)
    · cases he
  case slice t x lo hi mx =>
    cases mx with
    | some m =>
      cases hi with
      | none => cases he
      | some hi =>
        dsimp only at he
        split at he
        · rename_i p l u k hp hl hu hk
          have h1 := he
          obtain ⟨p', h2, h3⟩ := one hp
          obtain ⟨u', h4, h5⟩ := one hu
          obtain ⟨k', h6, h7⟩ := one hk
          exact via (s := Instr.sliceAt t p' (lo.map a.eval) (some u') (some k')) (by unfold execOp; rw [hop]; dsimp only; rw [h2]; simp only [Option.map_some, h4, h6]) (o_slice3_is T hh h3 (evO_is hf hl) h5 h7 h1)
        · cases he
    | none =>
      dsimp only at he
      split at he
      · rename_i p l u hp hl hu
        have h1 := he
        obtain ⟨p', h2, h3⟩ := one hp
        exact via (s := Instr.sliceAt t p' (lo.map a.eval) (hi.map a.eval) none) (by unfold execOp; rw [hop]; dsimp only; rw [h2]; rfl) (o_sliceX_is T hh h3 (evO_is hf hl) (evO_is hf hu) h1)
      · cases he
  case makeFunc fn f c =>
    split at he
    · rename_i p u hp hu
      exact via (s := Instr.makeFunc fn (f.map a.eval) (c.map a.eval)) (by unfold execOp; rw [hop]) (o_makeFunc_is hh (by rw [Array.toList_map]; exact evL_is hf _ _ hp) (by rw [Array.toList_map]; exact evL_is hf _ _ hu) he)
    · cases he
  case lookup t x i b =>
    split at he
    · rename_i p u hp hu
      have h1 := he
      obtain ⟨p', h2, h3⟩ := one hp
      obtain ⟨u', h4, h5⟩ := one hu
      exact via (s := Instr.lookup t p' u' b) (by unfold execOp; rw [hop]; dsimp only; rw [h2, h4]) (o_lookup_is T hh h3 h5 h1)
    · cases he
  case entry x =>
    split at he
    · rename_i u hu
      obtain ⟨u', h2, h3⟩ := one hu
      exact via (s := Instr.entry u') (by unfold execOp; rw [hop]; dsimp only; rw [h2]) (o_entry_is hh h3 he)
    · cases he
  case extract x i =>
    split at he
    · rename_i u hu
      have h1 := he
      obtain ⟨u', h2, h3⟩ := one hu
      exact via (s := Instr.extract u' i) (by unfold execOp; rw [hop]; dsimp only; rw [h2]) (o_extract_is hh h3 h1)
    · cases he
  case call c =>
    split at he
    · rename_i hcal
      split at he
      · rename_i x t hl ht
        have h1 := he
        obtain ⟨x', hx1, hx2⟩ := list1 (evL_is hf _ _ hl)
        have e1 : c.args.map a.eval = #[x'] := Array.ext' (by rw [Array.toList_map]; exact hx1)
        have e2 : c.argTypes = #[t] := Array.ext' ht
        exact via (s := Builtin.len_ #[t] o.type #[x']) (by unfold execOp; rw [hop]; dsimp only; unfold resolve; rw [e1, hcal, e2]; rfl) (o_lenA_is T hh hx2 h1)
      · cases he
    · rename_i hcal
      split at he
      · rename_i x t hl ht
        have h1 := he
        obtain ⟨x', hx1, hx2⟩ := list1 (evL_is hf _ _ hl)
        have e1 : c.args.map a.eval = #[x'] := Array.ext' (by rw [Array.toList_map]; exact hx1)
        have e2 : c.argTypes = #[t] := Array.ext' ht
        exact via (s := Builtin.cap_ #[t] o.type #[x']) (by unfold execOp; rw [hop]; dsimp only; unfold resolve; rw [e1, hcal, e2]; rfl) (o_cap_is T hh hx2 h1)
      · cases he
    · rename_i hcal
      split at he
      · rename_i x y hl
        have h1 := he
        obtain ⟨x', y', hx1, hx2, hx3⟩ := list2 (evL_is hf _ _ hl)
        have e1 : c.args.map a.eval = #[x', y'] := Array.ext' (by rw [Array.toList_map]; exact hx1)
        exact via (s := Builtin.min_ c.argTypes o.type #[x', y']) (by unfold execOp; rw [hop]; dsimp only; unfold resolve; rw [e1, hcal]; rfl) (o_min_is hh hx2 hx3 h1)
      · cases he
    · rename_i hcal
      split at he
      · rename_i x y hl
        have h1 := he
        obtain ⟨x', y', hx1, hx2, hx3⟩ := list2 (evL_is hf _ _ hl)
        have e1 : c.args.map a.eval = #[x', y'] := Array.ext' (by rw [Array.toList_map]; exact hx1)
        exact via (s := Builtin.complex_ c.argTypes o.type #[x', y']) (by unfold execOp; rw [hop]; dsimp only; unfold resolve; rw [e1, hcal]; rfl) (o_cpx_is hh hx2 hx3 h1)
      · cases he
    · rename_i hcal
      split at he
      · rename_i x hl
        have h1 := he
        obtain ⟨x', hx1, hx2⟩ := list1 (evL_is hf _ _ hl)
        have e1 : c.args.map a.eval = #[x'] := Array.ext' (by rw [Array.toList_map]; exact hx1)
        exact via (s := Builtin.real_ c.argTypes o.type #[x']) (by unfold execOp; rw [hop]; dsimp only; unfold resolve; rw [e1, hcal]; rfl) (o_re_is hh hx2 h1)
      · cases he
    · rename_i hcal
      split at he
      · rename_i x hl
        have h1 := he
        obtain ⟨x', hx1, hx2⟩ := list1 (evL_is hf _ _ hl)
        have e1 : c.args.map a.eval = #[x'] := Array.ext' (by rw [Array.toList_map]; exact hx1)
        exact via (s := Builtin.imag_ c.argTypes o.type #[x']) (by unfold execOp; rw [hop]; dsimp only; unfold resolve; rw [e1, hcal]; rfl) (o_im_is hh hx2 h1)
      · cases he
    · cases he
theorem operE_is (T : TyOK P ty) (hS : SzOK ty sz) {call : CallF} (hcall : CallS P sz call) {fr : Fr} {h : Hp} {o : Oper} {v : Value} {h' : Hp} (he : operE ty call fr h o = some (v, h')) {R : Rn} {w : World} {rd : Option Nat} {nt : Nat} {a : Act}
    (hh : HR sz w0 Φ R w h) (hf : FR R rd nt fr a) : OpR P sz w0 Φ R w h' v ((execOp a.eval o).run P w) := by
  unfold operE at he
  have via : ∀ {s : Sem Value}, execOp a.eval o = (do pure (Next.value (← s))) → Ok P sz w0 Φ R w h' v s → OpR P sz w0 Φ R w h' v ((execOp a.eval o).run P w) := fun e ⟨R', w', v', h1, h2, h3, h4⟩ => .inl ⟨R', w', v', h1, h2, h3, .inl (by rw [e]; exact run_v h4)⟩
  have one : ∀ {x : Operand} {u : Value}, ev1 fr x = some u → ∃ u', a.eval x = u' ∧ VR R u u' := fun hx => ev1_is hf hx
  cases hop : o.op <;> rw [hop] at he <;> (try dsimp only at he) <;> first | (cases he; done) | skip
  case alloc e => exact via (by unfold execOp; rw [hop]) (o_alloc_is T hh he)
  case box e x =>
    split at he
    · rename_i u hu
      obtain ⟨u', h2, h3⟩ := one hu
      exact via (s := Instr.box e u') (by unfold execOp; rw [hop]; dsimp only; rw [h2]) (o_box_is hh h3 he)
    · cases he
  case buildSlice t len ps =>
    split at he
    · rename_i l hl
      exact via (s := Instr.buildSlice t len (ps.map fun (i, x) => (i, a.eval x))) (by unfold execOp; rw [hop]) (o_buildSlice_is T hh (by rw [parts_map]; exact evP_is hf _ _ hl) he)
    · cases he
  case store t x y =>
    split at he
    · rename_i p u hp hu
      obtain ⟨p', h2, h3⟩ := one hp
      obtain ⟨u', h4, h5⟩ := one hu
      split at he
      · rename_i h1 hs
        cases he
        obtain ⟨w', h6, h7⟩ := o_store_is T hh h3 h5 hs
        exact .inl ⟨R, w', undef, .refl R, h6, VR.undef, .inr ⟨by unfold execOp; rw [hop]; dsimp only; rw [h2, h4]; exact run_u h7, rfl⟩⟩
      · cases he
    · cases he
  case makeMap t r =>
    cases r with
    | some x =>
      dsimp only at he
      split at he
      · rename_i k n kt et hu hd
        obtain ⟨u', h2, h3⟩ := one hu
        exact via (s := Instr.makeMap t (some u')) (by unfold execOp; rw [hop]; dsimp only [Option.map_some]; rw [h2]) (o_makeMapR_is hh T hd h3 he)
      · cases he
    | none => exact via (s := Instr.makeMap t none) (by unfold execOp; rw [hop]; rfl) (o_makeMap_is hh he)
  case range t x =>
    split at he
    · rename_i u hu
      obtain ⟨u', h2, h3⟩ := one hu
      exact via (s := Instr.range t u') (by unfold execOp; rw [hop]; dsimp only; rw [h2]) (o_range_is T hh h3 he)
    · cases he
  case next x b =>
    split at he
    · rename_i u hu
      obtain ⟨u', h2, h3⟩ := one hu
      cases b with
      | true => cases he
      | false => exact via (s := Instr.next u' false o.type) (by unfold execOp; rw [hop]; dsimp only; rw [h2]) (o_next_is hh h3 he)
    · cases he
  case makeSlice t x y =>
    split at he
    · rename_i p u hp hu
      obtain ⟨p', h2, h3⟩ := one hp
      obtain ⟨u', h4, h5⟩ := one hu
      exact via (s := Instr.makeSlice t p' u') (by unfold execOp; rw [hop]; dsimp only; rw [h2, h4]) (o_makeSlice_is T hh h3 h5 he)
    · cases he
  case mapUpdate t m k x =>
    split at he
    · rename_i p u q hp hu hq
      obtain ⟨p', h2, h3⟩ := one hp
      obtain ⟨u', h4, h5⟩ := one hu
      obtain ⟨q', h6, h7⟩ := one hq
      split at he
      · rename_i h1 hs
        cases he
        obtain ⟨w', h8, h9⟩ := o_mapUpdate_is T hh h3 h5 h7 hs
        exact .inl ⟨R, w', undef, .refl R, h8, VR.undef, .inr ⟨by unfold execOp; rw [hop]; dsimp only; rw [h2, h4, h6]; exact run_u h9, rfl⟩⟩
      · cases he
    · cases he
  case insert t m k x =>
    split at he
    · rename_i p u q hp hu hq
      obtain ⟨p', h2, h3⟩ := one hp
      obtain ⟨u', h4, h5⟩ := one hu
      obtain ⟨q', h6, h7⟩ := one hq
      split at he
      · rename_i h1 hs
        cases he
        obtain ⟨w', h8, h9⟩ := o_mapUpdate_is T hh h3 h5 h7 hs
        exact .inl ⟨R, w', undef, .refl R, h8, VR.undef, .inr ⟨by unfold execOp; rw [hop]; dsimp only; rw [h2, h4, h6]; exact run_u h9, rfl⟩⟩
      · cases he
    · cases he
  case call c =>
    split at he
    · rename_i f hcal
      split at he
      · rename_i g fs cs l hfv hl
        obtain ⟨u', h2, h3⟩ := one hfv
        obtain ⟨f', c', rfl, hf1, hf2⟩ := h3.func2
        have hargs := evL_is hf _ _ hl
        have hA : A2 (VR R) (fs.toList ++ l ++ cs.toList) ((f' ++ c.args.map a.eval) ++ c').toList := by
          rw [Array.toList_append, Array.toList_append, Array.toList_map]
          exact (hf1.app hargs).app hf2
        obtain ⟨hcb, _⟩ := hcall w0 Φ (.fn g) _ h v h' he R w _ (fun _ _ => True) hh hA (fun _ _ _ _ _ _ => trivial)
        have hrun : (execOp a.eval o).run P w = .ok (.enter g ((f' ++ c.args.map a.eval) ++ c')) w := by
          unfold execOp
          rw [hop]
          simp only [resolve, hcal, h2, Deferred.ofValue, Sem.run_bind, Sem.run_pure, Result.andThen_ok, invoke]
          exact run_callFunc hcb _ _
        exact .inr (.inl ⟨g, _, hrun, fun W hW => (hcall w0 Φ (.fn g) _ h v h' he R w _ W hh hA hW).2⟩)
      · rename_i i fs cs l hfv hl
        cases hem : fs.isEmpty && cs.isEmpty with
        | false => rw [hem] at he; cases he
        | true =>
          rw [hem] at he
          dsimp only [cond_true] at he
          obtain ⟨u', h2, h3⟩ := one hfv
          obtain ⟨rfl, hD, _, _⟩ := h3.yld
          have hargs := evL_is hf _ _ hl
          have hA : A2 (VR R) l (c.args.map a.eval).toList := by rw [Array.toList_map]; exact hargs
          obtain ⟨_, fn, tmps, as, bd, hy, _⟩ := hcall w0 Φ (.yl i) _ h v h' he R w _ (fun _ _ => True) hh hA (fun _ _ _ _ _ _ => trivial)
          have hrun : (execOp a.eval o).run P w = .ok (.round (R.ρ i) fn tmps as bd) w := by
            unfold execOp
            rw [hop]
            simp only [resolve, hcal, h2, Deferred.ofValue, Sem.run_bind, Sem.run_pure, Result.andThen_ok, invoke, Array.empty_append]
            exact hy
          refine .inr (.inr ⟨_, _, _, _, _, hrun, fun W hW => ?_⟩)
          obtain ⟨_, fn2, tmps2, as2, bd2, hy2, hR⟩ := hcall w0 Φ (.yl i) _ h v h' he R w _ W hh hA hW
          rw [hy] at hy2
          cases hy2
          exact hR
      · cases he
    · rename_i hcal
      split at he
      · rename_i x y t t2 hl ht
        cases hte : Nat.beq t t2 with
        | false =>
          rw [hte] at he
          obtain ⟨x', y', hx1, hx2, hx3⟩ := list2 (evL_is hf _ _ hl)
          have e1 : c.args.map a.eval = #[x', y'] := Array.ext' (by rw [Array.toList_map]; exact hx1)
          have e2 : c.argTypes = #[t, t2] := Array.ext' ht
          exact via (s := Builtin.append_ #[t, t2] o.type #[x', y']) (by unfold execOp; rw [hop]; dsimp only; unfold resolve; rw [e1, hcal, e2]; rfl) (o_appendY_is T hS hh hx2 hx3 he)
        | true =>
          rw [hte] at he
          have e0 := Nat.eq_of_beq_eq_true hte
          subst e0
          obtain ⟨x', y', hx1, hx2, hx3⟩ := list2 (evL_is hf _ _ hl)
          have e1 : c.args.map a.eval = #[x', y'] := Array.ext' (by rw [Array.toList_map]; exact hx1)
          have e2 : c.argTypes = #[t, t] := Array.ext' ht
          exact via (s := Builtin.append_ #[t, t] o.type #[x', y']) (by unfold execOp; rw [hop]; dsimp only; unfold resolve; rw [e1, hcal, e2]; rfl) (o_appendX_is T hS hh hx2 hx3 he)
      · cases he
    · rename_i hcal
      split at he
      · rename_i x y t t2 hl ht
        obtain ⟨x', y', hx1, hx2, hx3⟩ := list2 (evL_is hf _ _ hl)
        have e1 : c.args.map a.eval = #[x', y'] := Array.ext' (by rw [Array.toList_map]; exact hx1)
        have e2 : c.argTypes = #[t, t2] := Array.ext' ht
        exact via (s := Builtin.copy_ #[t, t2] o.type #[x', y']) (by unfold execOp; rw [hop]; dsimp only; unfold resolve; rw [e1, hcal, e2]; rfl) (o_copy_is T hh hx2 hx3 he)
      · cases he
    · cases he
theorem nd_Q {fr : Fr} {h : Hp} {o : Oper} {v : Value} (he : operQ ty fr h o = some v) : ∀ c, o.op ≠ .defer c := fun c e => by
  unfold operQ at he
  rw [e] at he
  cases he
theorem nd_E {call : CallF} {fr : Fr} {h : Hp} {o : Oper} {v : Value × Hp} (he : operE ty call fr h o = some v) : ∀ c, o.op ≠ .defer c := fun c e => by
  unfold operE at he
  rw [e] at he
  cases he
theorem oper_is (T : TyOK P ty) (hS : SzOK ty sz) (call : CallF) (hcall : CallS P sz call) : OpS P sz (oper ty call) := by
  intro w0 Φ fr h o v h' he R w rd nt a K Q hh hf hK
  unfold oper at he
  cases hq : operQ ty fr h o with
  | some u =>
    rw [hq] at he
    cases he
    obtain ⟨v', h1, h2⟩ := operQ_is T hq hh hf
    exact wp_val (nd_Q hq) h2 (hK R w v' (.refl R) hh h1)
  | none =>
    rw [hq] at he
    exact (operE_is T hS hcall he hh hf).wp (nd_E he) hK
/-- functions whose word is known -/
def callX (ex : Nat → List Value → Option Value) (call : CallF) : CallF := fun c args h => match c with
  | .fn f => match ex f args with
    | some v => some (v, h)
    | none => call (.fn f) args h
  | .yl i => call (.yl i) args h
def flat2 : Value → Bool
  | .float _ _ | .complex _ _ _ => true
  | v => flat v
theorem VR.flat2 {R : Rn} {v v' : Value} (h : VR R v v') (hf : Go.Ev.flat2 v = true) : v' = v := by
  unfold Go.Ev.flat2 at hf
  split at hf
  · rcases h with (h | ⟨_, _, h, _⟩) | ⟨_, _, h, _⟩
    · cases h; rfl
    · cases h
    · cases h
  · rcases h with (h | ⟨_, _, h, _⟩) | ⟨_, _, h, _⟩
    · cases h; rfl
    · cases h
    · cases h
  · exact h.flat hf
theorem VR.of_flat2 {R : Rn} {v : Value} (hf : Go.Ev.flat2 v = true) : VR R v v := by
  unfold Go.Ev.flat2 at hf
  split at hf
  · exact .lit rfl
  · exact .lit rfl
  · exact .of_flat hf
def ExOK (P : Program) (ex : Nat → List Value → Option Value) : Prop := ∀ f args v, ex f args = some v → args.all flat2 = true ∧ flat2 v = true ∧ Callable P f ∧ ∀ w, Calls P f args.toArray w fun e w' => e = .returned v ∧ Below w.heap.size w w'
theorem callX_is {ex : Nat → List Value → Option Value} (hx : ExOK P ex) {call : CallF} (hcall : CallS P sz call) : CallS P sz (callX ex call) := by
  intro w0 Φ c args h v h' he R w args' W hh hA hW
  cases c with
  | yl i => exact hcall w0 Φ (.yl i) args h v h' he R w args' W hh hA hW
  | fn f =>
    unfold callX at he
    dsimp only at he
    cases hf : ex f args with
    | none =>
      rw [hf] at he
      exact hcall w0 Φ (.fn f) args h v h' he R w args' W hh hA hW
    | some u =>
      rw [hf] at he
      cases he
      obtain ⟨h1, h2, h3, h4⟩ := hx f args v hf
      have ha : args' = args.toArray := by
        apply Array.ext'
        refine List.ext_getElem? fun i => ?_
        cases hi : args[i]? with
        | none =>
          have := hA.1
          rw [List.getElem?_eq_none_iff] at hi
          rw [List.getElem?_eq_none_iff]
          omega
        | some v =>
          obtain ⟨v', h5, h6⟩ := hA.2 i v hi
          rw [h5, h6.flat2 (List.all_eq_true.1 h1 v (List.mem_of_getElem? hi))]
      subst ha
      refine ⟨h3, (h4 w).mono fun e w' he => ?_⟩
      obtain ⟨rfl, hb⟩ := he
      exact hW R w' v (.refl R) (hh.on ⟨hb.os, hb.tape, hb.output, hb.size, fun k hk => hb.block k (hh.stay hk)⟩ fun j c hc => hb.block _ (hh.old hc)) (.of_flat2 h2)
end
end Go.Ev
