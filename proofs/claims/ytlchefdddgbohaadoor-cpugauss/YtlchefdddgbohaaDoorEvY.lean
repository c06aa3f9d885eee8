/- The evaluator in a form that the kernel runs faster: it is the same function. -/
import Derived.Test.YtlchefdddgbohaaDoorEvZ
noncomputable section
namespace Go.Ev
open Go.RowKit
set_option linter.unusedVariables false

def o1 {α β : Type} (x : Option α) (f : α → Option β) : Option β := Option.rec (motive := fun _ => Option β) none f x
def o2 {α β γ : Type} (x : Option α) (y : Option β) (f : α → β → Option γ) : Option γ := Option.rec (motive := fun _ => Option γ) none (fun a => Option.rec (motive := fun _ => Option γ) none (f a) y) x
theorem o1_eq {α β : Type} (x : Option α) (f : α → Option β) : o1 x f = x.bind f := by cases x <;> rfl
def ev1F (x : Operand) : Fr → Option Value := Operand.rec (motive := fun _ => Fr → Option Value) (fun t fr => fr.t.get t) (fun v _ => Bool.rec (motive := fun _ => Option Value) none (some v) (lit v)) (fun g _ => some (.pointer (some ⟨many + 1 + g, 0, none⟩))) (fun f _ => some (.func (.func f) #[] #[])) x
theorem ev1F_eq (x : Operand) (fr : Fr) : ev1F x fr = ev1 fr x := by
  cases x with
  | tmp t => rfl
  | const v => show Bool.rec _ _ (lit v) = bif lit v then some v else none; cases lit v <;> rfl
  | global g => rfl
  | func f => rfl
def wrapQ (x : Option Value) (h : Hp) : Option (Value × Hp) := Option.rec (motive := fun _ => Option (Value × Hp)) none (fun v => some (v, h)) x
def q_bin (ty : Ty) (op : BinOp) (t : TypeId) (x y : Operand) (a b : Value) : Option Value := match a, b with
  | .nilIface, .nilIface => bif isCon x || isCon y then o_nilI ty op t else none
  | a, b => o_bin ty op t a b
abbrev OpF := Ty → CallF → Fr → Hp → Option (Value × Hp)
def fNone : OpF := fun _ _ _ _ => none
def f_move (x : Operand) : OpF := fun ty call fr h => wrapQ (ev1F x fr) h
def f_assign (x : Operand) : OpF := fun ty call fr h => wrapQ (ev1F x fr) h
def f_pick (c a b : Operand) : OpF := fun ty call fr h => wrapQ (match ev1F c fr with
    | some (.bool t) => (bif t then ev1F a fr else ev1F b fr)
    | _ => none) h
def f_build (t : TypeId) (ps : Array (Nat × Operand)) : OpF := fun ty call fr h => wrapQ (match evP fr ps.toList with
    | some l => (o_build ty t l)
    | none => none) h
def f_load (t : TypeId) (a : Operand) : OpF := fun ty call fr h => wrapQ (o1 (ev1F a fr) (o_load ty h t)) h
def f_nilCheck (x : Operand) : OpF := fun ty call fr h => wrapQ (match ev1F x fr with
    | some (.pointer (some a)) => some (.pointer (some a))
    | some (.func (.func g) f c) => some (.func (.func g) f c)
    | some (.func (.yield g) f c) => some (.func (.yield g) f c)
    | _ => none) h
def f_binOp (op : BinOp) (t : TypeId) (x y : Operand) (u : TypeId) : OpF := fun ty call fr h => wrapQ (o2 (ev1F x fr) (ev1F y fr) (q_bin ty op t x y)) h
def f_makeFunc (fn : Fn) (f c : Array Operand) : OpF := fun ty call fr h => wrapQ (match evL fr f.toList, evL fr c.toList with
    | some a, some b => o_makeFunc fn a b
    | _, _ => none) h
def f_lookup (t : TypeId) (x i : Operand) (b : Bool) : OpF := fun ty call fr h => wrapQ (match ev1F x fr, ev1F i fr with
    | some m, some k => o_lookup ty h t m k b
    | _, _ => none) h
def f_entry (x : Operand) : OpF := fun ty call fr h => wrapQ (match ev1F x fr with
    | some i => o_entry h i
    | none => none) h
def f_unOp (op : UnOp) (u : TypeId) (x : Operand) : OpF := fun ty call fr h => wrapQ (o1 (ev1F x fr) (o_un op)) h
def f_convert (s d : TypeId) (x : Operand) : OpF := fun ty call fr h => wrapQ (o1 (ev1F x fr) (o_convX ty h s d)) h
def f_fieldAddr (s : TypeId) (x : Operand) (f : Nat) : OpF := fun ty call fr h => wrapQ (o1 (ev1F x fr) (fun a => o_fieldAddr ty s a f)) h
def f_field (s : TypeId) (x : Operand) (f : Nat) : OpF := fun ty call fr h => wrapQ (o1 (ev1F x fr) (fun a => o_field ty s a f)) h
def f_indexAddr (t : TypeId) (x i : Operand) : OpF := fun ty call fr h => wrapQ (o2 (ev1F x fr) (ev1F i fr) (o_indexAddr ty t)) h
def f_index (t : TypeId) (x i : Operand) : OpF := fun ty call fr h => wrapQ (o2 (ev1F x fr) (ev1F i fr) (o_indexX ty t)) h
def f_slice (t : TypeId) (x : Operand) (lo hi mx : Option Operand) : OpF := fun ty call fr h => wrapQ (match mx with
    | none => (match ev1F x fr, evO fr lo, evO fr hi with
      | some a, some l, some u => (o_sliceX ty t a l u)
      | _, _, _ => none)
    | some m => (match hi with
      | none => none
      | some hi => (match ev1F x fr, evO fr lo, ev1F hi fr, ev1F m fr with
        | some a, some l, some u, some k => (o_slice3 ty t a l u k)
        | _, _, _, _ => none))) h
def f_extract (x : Operand) (i : Nat) : OpF := fun ty call fr h => wrapQ (o1 (ev1F x fr) (fun a => o_extract a i)) h
def f_alloc (e : TypeId) : OpF := fun ty call fr h => o_alloc ty h e
def f_box (e : TypeId) (x : Operand) : OpF := fun ty call fr h => match ev1F x fr with
    | some v => o_box h e v
    | none => none
def f_buildSlice (t : TypeId) (len : Nat) (ps : Array (Nat × Operand)) : OpF := fun ty call fr h => match evP fr ps.toList with
    | some l => o_buildSlice ty h t len l
    | none => none
def f_store (t : TypeId) (a x : Operand) : OpF := fun ty call fr h => o2 (ev1F a fr) (ev1F x fr) (fun p v => o1 (o_store ty h t p v) (fun h' => some (undef, h')))
def f_makeMap (t : TypeId) (n : Option Operand) : OpF := fun ty call fr h => match n with
    | none => o_makeMap h
    | some x => (match ev1F x fr, desc ty t with
      | some (.int _ _), some (.map _ _) => o_makeMap h
      | _, _ => none)
def f_range (t : TypeId) (x : Operand) : OpF := fun ty call fr h => match ev1F x fr with
    | some m => o_range ty h t m
    | none => none
def f_next (x : Operand) (b : Bool) : OpF := fun ty call fr h => match ev1F x fr with
    | some i => bif b then none else o_next h i
    | none => none
def f_makeSlice (t : TypeId) (l c : Operand) : OpF := fun ty call fr h => match ev1F l fr, ev1F c fr with
    | some a, some b => o_makeSlice ty h t a b
    | _, _ => none
def f_mapUpdate (t : TypeId) (m k x : Operand) : OpF := fun ty call fr h => match ev1F m fr, ev1F k fr, ev1F x fr with
    | some a, some b, some v => match o_mapUpdate ty h t a b v with
      | some h' => some (undef, h')
      | none => none
    | _, _, _ => none
def f_insert (t : TypeId) (m k x : Operand) : OpF := fun ty call fr h => match ev1F m fr, ev1F k fr, ev1F x fr with
    | some a, some b, some v => match o_mapUpdate ty h t a b v with
      | some h' => some (undef, h')
      | none => none
    | _, _, _ => none
def f_callV (f : Operand) (c : Call) : OpF := fun ty call fr h => match ev1F f fr, evL fr c.args.toList with
  | some (.func (.func g) fs cs), some l => call (.fn g) (fs.toList ++ l ++ cs.toList) h
  | some (.func (.yield i) fs cs), some l => bif fs.isEmpty && cs.isEmpty then call (.yl i) l h else none
  | _, _ => none
def f_append (c : Call) : OpF := fun ty call fr h => match evL fr c.args.toList, c.argTypes.toList with
  | some [x, y], [t, t2] => bif Nat.beq t t2 then o_appendX ty h t x y else o_appendY ty h t t2 x y
  | _, _ => none
def f_copy (c : Call) : OpF := fun ty call fr h => match evL fr c.args.toList, c.argTypes.toList with
  | some [x, y], [t, _] => o_copy ty h t x y
  | _, _ => none
def f_len (c : Call) : OpF := fun ty call fr h => wrapQ (match evL fr c.args.toList, c.argTypes.toList with
  | some [x], [t] => o_lenA ty h t x
  | _, _ => none) h
def f_cap (c : Call) : OpF := fun ty call fr h => wrapQ (match evL fr c.args.toList, c.argTypes.toList with
  | some [x], [t] => o_cap ty t x
  | _, _ => none) h
def f_min (c : Call) : OpF := fun ty call fr h => wrapQ (match evL fr c.args.toList with
  | some [x, y] => o_min x y
  | _ => none) h
def f_complex (c : Call) : OpF := fun ty call fr h => wrapQ (match evL fr c.args.toList with
  | some [x, y] => o_cpx x y
  | _ => none) h
def f_real (c : Call) : OpF := fun ty call fr h => wrapQ (match evL fr c.args.toList with
  | some [x] => o_re x
  | _ => none) h
def f_imag (c : Call) : OpF := fun ty call fr h => wrapQ (match evL fr c.args.toList with
  | some [x] => o_im x
  | _ => none) h
def fNoneC (c : Call) : OpF := fNone
def f_builtin (b : Builtin) : Call → OpF := @Builtin.rec (fun _ => Call → OpF) f_append f_cap fNoneC fNoneC f_complex f_copy fNoneC f_imag f_len fNoneC fNoneC f_min fNoneC fNoneC fNoneC fNoneC f_real fNoneC fNoneC fNoneC fNoneC fNoneC fNoneC fNoneC fNoneC fNoneC b
def f_call (c : Call) : OpF := @Callee.rec (fun _ => Call → OpF) f_callV (fun _ _ => fNoneC) f_builtin c.callee c
def operF (o : Op) : OpF := @Op.rec (fun _ => OpF) f_move f_assign f_pick f_alloc f_box f_build f_buildSlice f_insert f_load f_store (fun _ => fNone) (fun _ => fNone) f_nilCheck f_binOp f_unOp f_convert (fun _ _ => fNone) (fun _ _ => fNone) f_makeFunc f_makeMap (fun _ _ => fNone) f_makeSlice f_slice f_fieldAddr f_field f_indexAddr f_index f_lookup f_mapUpdate (fun _ _ _ => fNone) (fun _ _ _ _ => fNone) f_range f_next f_entry (fun _ _ _ _ => fNone) f_extract f_call (fun _ => fNone) (fun _ => fNone) (fun _ => fNone) (fun _ _ => fNone) (fun _ _ _ => fNone) (fun _ _ => fNone) o
section
variable {ty : Ty} {call : CallF} {fr : Fr} {h : Hp} {o : Oper}
theorem oper_Q {q : Option Value} (h1 : operQ ty fr h o = q) (h2 : operE ty call fr h o = none) : oper ty call fr h o = wrapQ q h := by
  unfold oper
  rw [h1, h2]
  cases q <;> rfl
theorem oper_E {q : Option (Value × Hp)} (h1 : operQ ty fr h o = none) (h2 : operE ty call fr h o = q) : oper ty call fr h o = q := by
  unfold oper
  rw [h1, h2]
theorem o2_eq {α β γ : Type} (x : Option α) (y : Option β) (f : α → β → Option γ) : o2 x y f = match x, y with | some a, some b => f a b | _, _ => none := by
  cases x <;> cases y <;> rfl
theorem o1_mt {α β : Type} (x : Option α) (f : α → Option β) : o1 x f = match x with | some a => f a | none => none := by
  cases x <;> rfl
theorem f_move_eq (x : Operand) (dst : Option Tmp) (ty0 : TypeId) (pos : String) (after : Array Edge) (guard : Option (Nat × Bool)) : f_move x ty call fr h = oper ty call fr h ⟨dst, .move x, ty0, pos, after, guard⟩ := by
  unfold f_move
  try simp only [ev1F_eq]
  symm
  refine oper_Q (?_ : _ = _) (by rfl)
  symm
  rfl
theorem f_assign_eq (x : Operand) (dst : Option Tmp) (ty0 : TypeId) (pos : String) (after : Array Edge) (guard : Option (Nat × Bool)) : f_assign x ty call fr h = oper ty call fr h ⟨dst, .assign x, ty0, pos, after, guard⟩ := by
  unfold f_assign
  try simp only [ev1F_eq]
  symm
  refine oper_Q (?_ : _ = _) (by rfl)
  symm
  rfl
theorem f_pick_eq (c a b : Operand) (dst : Option Tmp) (ty0 : TypeId) (pos : String) (after : Array Edge) (guard : Option (Nat × Bool)) : f_pick c a b ty call fr h = oper ty call fr h ⟨dst, .pick c a b, ty0, pos, after, guard⟩ := by
  unfold f_pick
  try simp only [ev1F_eq]
  symm
  refine oper_Q (?_ : _ = _) (by rfl)
  symm
  rfl
theorem f_build_eq (t : TypeId) (ps : Array (Nat × Operand)) (dst : Option Tmp) (ty0 : TypeId) (pos : String) (after : Array Edge) (guard : Option (Nat × Bool)) : f_build t ps ty call fr h = oper ty call fr h ⟨dst, .build t ps, ty0, pos, after, guard⟩ := by
  unfold f_build
  try simp only [ev1F_eq]
  symm
  refine oper_Q (?_ : _ = _) (by rfl)
  symm
  rfl
theorem f_load_eq (t : TypeId) (a : Operand) (dst : Option Tmp) (ty0 : TypeId) (pos : String) (after : Array Edge) (guard : Option (Nat × Bool)) : f_load t a ty call fr h = oper ty call fr h ⟨dst, .load t a, ty0, pos, after, guard⟩ := by
  unfold f_load
  try simp only [ev1F_eq]
  symm
  refine oper_Q (?_ : _ = _) (by rfl)
  symm
  unfold operQ
  dsimp only
  cases ev1 fr a <;> rfl
theorem f_nilCheck_eq (x : Operand) (dst : Option Tmp) (ty0 : TypeId) (pos : String) (after : Array Edge) (guard : Option (Nat × Bool)) : f_nilCheck x ty call fr h = oper ty call fr h ⟨dst, .nilCheck x, ty0, pos, after, guard⟩ := by
  unfold f_nilCheck
  try simp only [ev1F_eq]
  symm
  refine oper_Q (?_ : _ = _) (by rfl)
  symm
  rfl
theorem f_binOp_eq (op : BinOp) (t : TypeId) (x y : Operand) (u : TypeId) (dst : Option Tmp) (ty0 : TypeId) (pos : String) (after : Array Edge) (guard : Option (Nat × Bool)) : f_binOp op t x y u ty call fr h = oper ty call fr h ⟨dst, .binOp op t x y u, ty0, pos, after, guard⟩ := by
  unfold f_binOp
  try simp only [ev1F_eq]
  symm
  refine oper_Q (?_ : _ = _) (by rfl)
  symm
  unfold operQ
  dsimp only
  cases ev1 fr x with
  | none => rfl
  | some a => cases ev1 fr y with
    | none => cases a <;> rfl
    | some b => cases a <;> first | rfl | (cases b <;> rfl)
theorem f_makeFunc_eq (fn : Fn) (f c : Array Operand) (dst : Option Tmp) (ty0 : TypeId) (pos : String) (after : Array Edge) (guard : Option (Nat × Bool)) : f_makeFunc fn f c ty call fr h = oper ty call fr h ⟨dst, .makeFunc fn f c, ty0, pos, after, guard⟩ := by
  unfold f_makeFunc
  try simp only [ev1F_eq]
  symm
  refine oper_Q (?_ : _ = _) (by rfl)
  symm
  rfl
theorem f_lookup_eq (t : TypeId) (x i : Operand) (b : Bool) (dst : Option Tmp) (ty0 : TypeId) (pos : String) (after : Array Edge) (guard : Option (Nat × Bool)) : f_lookup t x i b ty call fr h = oper ty call fr h ⟨dst, .lookup t x i b, ty0, pos, after, guard⟩ := by
  unfold f_lookup
  try simp only [ev1F_eq]
  symm
  refine oper_Q (?_ : _ = _) (by rfl)
  symm
  rfl
theorem f_entry_eq (x : Operand) (dst : Option Tmp) (ty0 : TypeId) (pos : String) (after : Array Edge) (guard : Option (Nat × Bool)) : f_entry x ty call fr h = oper ty call fr h ⟨dst, .entry x, ty0, pos, after, guard⟩ := by
  unfold f_entry
  try simp only [ev1F_eq]
  symm
  refine oper_Q (?_ : _ = _) (by rfl)
  symm
  rfl
theorem f_unOp_eq (op : UnOp) (u : TypeId) (x : Operand) (dst : Option Tmp) (ty0 : TypeId) (pos : String) (after : Array Edge) (guard : Option (Nat × Bool)) : f_unOp op u x ty call fr h = oper ty call fr h ⟨dst, .unOp op u x, ty0, pos, after, guard⟩ := by
  unfold f_unOp
  try simp only [ev1F_eq]
  symm
  refine oper_Q (?_ : _ = _) (by rfl)
  symm
  unfold operQ
  dsimp only
  cases ev1 fr x <;> rfl
theorem f_convert_eq (s d : TypeId) (x : Operand) (dst : Option Tmp) (ty0 : TypeId) (pos : String) (after : Array Edge) (guard : Option (Nat × Bool)) : f_convert s d x ty call fr h = oper ty call fr h ⟨dst, .convert s d x, ty0, pos, after, guard⟩ := by
  unfold f_convert
  try simp only [ev1F_eq]
  symm
  refine oper_Q (?_ : _ = _) (by rfl)
  symm
  unfold operQ
  dsimp only
  cases ev1 fr x <;> rfl
theorem f_fieldAddr_eq (s : TypeId) (x : Operand) (f : Nat) (dst : Option Tmp) (ty0 : TypeId) (pos : String) (after : Array Edge) (guard : Option (Nat × Bool)) : f_fieldAddr s x f ty call fr h = oper ty call fr h ⟨dst, .fieldAddr s x f, ty0, pos, after, guard⟩ := by
  unfold f_fieldAddr
  try simp only [ev1F_eq]
  symm
  refine oper_Q (?_ : _ = _) (by rfl)
  symm
  unfold operQ
  dsimp only
  cases ev1 fr x <;> rfl
theorem f_field_eq (s : TypeId) (x : Operand) (f : Nat) (dst : Option Tmp) (ty0 : TypeId) (pos : String) (after : Array Edge) (guard : Option (Nat × Bool)) : f_field s x f ty call fr h = oper ty call fr h ⟨dst, .field s x f, ty0, pos, after, guard⟩ := by
  unfold f_field
  try simp only [ev1F_eq]
  symm
  refine oper_Q (?_ : _ = _) (by rfl)
  symm
  unfold operQ
  dsimp only
  cases ev1 fr x <;> rfl
theorem f_indexAddr_eq (t : TypeId) (x i : Operand) (dst : Option Tmp) (ty0 : TypeId) (pos : String) (after : Array Edge) (guard : Option (Nat × Bool)) : f_indexAddr t x i ty call fr h = oper ty call fr h ⟨dst, .indexAddr t x i, ty0, pos, after, guard⟩ := by
  unfold f_indexAddr
  try simp only [ev1F_eq]
  symm
  refine oper_Q (?_ : _ = _) (by rfl)
  symm
  unfold operQ
  dsimp only
  cases ev1 fr x <;> cases ev1 fr i <;> rfl
theorem f_index_eq (t : TypeId) (x i : Operand) (dst : Option Tmp) (ty0 : TypeId) (pos : String) (after : Array Edge) (guard : Option (Nat × Bool)) : f_index t x i ty call fr h = oper ty call fr h ⟨dst, .index t x i, ty0, pos, after, guard⟩ := by
  unfold f_index
  try simp only [ev1F_eq]
  symm
  refine oper_Q (?_ : _ = _) (by rfl)
  symm
  unfold operQ
  dsimp only
  cases ev1 fr x <;> cases ev1 fr i <;> rfl
theorem f_slice_eq (t : TypeId) (x : Operand) (lo hi mx : Option Operand) (dst : Option Tmp) (ty0 : TypeId) (pos : String) (after : Array Edge) (guard : Option (Nat × Bool)) : f_slice t x lo hi mx ty call fr h = oper ty call fr h ⟨dst, .slice t x lo hi mx, ty0, pos, after, guard⟩ := by
  unfold f_slice
  try simp only [ev1F_eq]
  cases mx with
  | none => (symm; refine oper_Q ?_ ?_ <;> rfl)
  | some m => cases hi with
    | none => (symm; refine oper_Q ?_ ?_ <;> rfl)
    | some hi => (symm; refine oper_Q ?_ ?_ <;> rfl)
theorem f_extract_eq (x : Operand) (i : Nat) (dst : Option Tmp) (ty0 : TypeId) (pos : String) (after : Array Edge) (guard : Option (Nat × Bool)) : f_extract x i ty call fr h = oper ty call fr h ⟨dst, .extract x i, ty0, pos, after, guard⟩ := by
  unfold f_extract
  try simp only [ev1F_eq]
  symm
  refine oper_Q (?_ : _ = _) (by rfl)
  symm
  unfold operQ
  dsimp only
  cases ev1 fr x <;> rfl
theorem f_alloc_eq (e : TypeId) (dst : Option Tmp) (ty0 : TypeId) (pos : String) (after : Array Edge) (guard : Option (Nat × Bool)) : f_alloc e ty call fr h = oper ty call fr h ⟨dst, .alloc e, ty0, pos, after, guard⟩ := by
  unfold f_alloc
  (symm; refine oper_E ?_ ?_ <;> rfl)
theorem f_box_eq (e : TypeId) (x : Operand) (dst : Option Tmp) (ty0 : TypeId) (pos : String) (after : Array Edge) (guard : Option (Nat × Bool)) : f_box e x ty call fr h = oper ty call fr h ⟨dst, .box e x, ty0, pos, after, guard⟩ := by
  unfold f_box
  try simp only [ev1F_eq]
  symm
  refine oper_E (by rfl) ?_
  symm
  rfl
theorem f_buildSlice_eq (t : TypeId) (len : Nat) (ps : Array (Nat × Operand)) (dst : Option Tmp) (ty0 : TypeId) (pos : String) (after : Array Edge) (guard : Option (Nat × Bool)) : f_buildSlice t len ps ty call fr h = oper ty call fr h ⟨dst, .buildSlice t len ps, ty0, pos, after, guard⟩ := by
  unfold f_buildSlice
  try simp only [ev1F_eq]
  symm
  refine oper_E (by rfl) ?_
  symm
  rfl
theorem f_store_eq (t : TypeId) (a x : Operand) (dst : Option Tmp) (ty0 : TypeId) (pos : String) (after : Array Edge) (guard : Option (Nat × Bool)) : f_store t a x ty call fr h = oper ty call fr h ⟨dst, .store t a x, ty0, pos, after, guard⟩ := by
  unfold f_store
  try simp only [ev1F_eq]
  symm
  refine oper_E (by rfl) ?_
  symm
  unfold operE
  dsimp only
  cases ev1 fr a with
  | none => cases ev1 fr x <;> rfl
  | some p => cases ev1 fr x with
    | none => rfl
    | some v =>
      show o1 (o_store ty h t p v) _ = _
      dsimp only
      cases o_store ty h t p v <;> rfl
theorem f_makeMap_eq (t : TypeId) (n : Option Operand) (dst : Option Tmp) (ty0 : TypeId) (pos : String) (after : Array Edge) (guard : Option (Nat × Bool)) : f_makeMap t n ty call fr h = oper ty call fr h ⟨dst, .makeMap t n, ty0, pos, after, guard⟩ := by
  unfold f_makeMap
  try simp only [ev1F_eq]
  cases n with
  | none => (symm; refine oper_E ?_ ?_ <;> rfl)
  | some x => (symm; refine oper_E ?_ ?_ <;> rfl)
theorem f_range_eq (t : TypeId) (x : Operand) (dst : Option Tmp) (ty0 : TypeId) (pos : String) (after : Array Edge) (guard : Option (Nat × Bool)) : f_range t x ty call fr h = oper ty call fr h ⟨dst, .range t x, ty0, pos, after, guard⟩ := by
  unfold f_range
  try simp only [ev1F_eq]
  symm
  refine oper_E (by rfl) ?_
  symm
  rfl
theorem f_next_eq (x : Operand) (b : Bool) (dst : Option Tmp) (ty0 : TypeId) (pos : String) (after : Array Edge) (guard : Option (Nat × Bool)) : f_next x b ty call fr h = oper ty call fr h ⟨dst, .next x b, ty0, pos, after, guard⟩ := by
  unfold f_next
  try simp only [ev1F_eq]
  symm
  refine oper_E (by rfl) ?_
  symm
  rfl
theorem f_makeSlice_eq (t : TypeId) (l c : Operand) (dst : Option Tmp) (ty0 : TypeId) (pos : String) (after : Array Edge) (guard : Option (Nat × Bool)) : f_makeSlice t l c ty call fr h = oper ty call fr h ⟨dst, .makeSlice t l c, ty0, pos, after, guard⟩ := by
  unfold f_makeSlice
  try simp only [ev1F_eq]
  symm
  refine oper_E (by rfl) ?_
  symm
  rfl
theorem f_mapUpdate_eq (t : TypeId) (m k x : Operand) (dst : Option Tmp) (ty0 : TypeId) (pos : String) (after : Array Edge) (guard : Option (Nat × Bool)) : f_mapUpdate t m k x ty call fr h = oper ty call fr h ⟨dst, .mapUpdate t m k x, ty0, pos, after, guard⟩ := by
  unfold f_mapUpdate
  try simp only [ev1F_eq]
  symm
  refine oper_E (by rfl) ?_
  symm
  rfl
theorem f_insert_eq (t : TypeId) (m k x : Operand) (dst : Option Tmp) (ty0 : TypeId) (pos : String) (after : Array Edge) (guard : Option (Nat × Bool)) : f_insert t m k x ty call fr h = oper ty call fr h ⟨dst, .insert t m k x, ty0, pos, after, guard⟩ := by
  unfold f_insert
  try simp only [ev1F_eq]
  symm
  refine oper_E (by rfl) ?_
  symm
  rfl
theorem f_call_eq (c : Call) (dst : Option Tmp) (ty0 : TypeId) (pos : String) (after : Array Edge) (guard : Option (Nat × Bool)) : f_call c ty call fr h = oper ty call fr h ⟨dst, .call c, ty0, pos, after, guard⟩ := by
  obtain ⟨callee, c2, c3⟩ := c
  cases callee with
  | value f => unfold f_call f_callV; try simp only [ev1F_eq]; (symm; refine oper_E ?_ ?_ <;> rfl)
  | invoke r m => (symm; refine oper_E ?_ ?_ <;> rfl)
  | builtin b => cases b <;> first | (symm; refine oper_E ?_ ?_ <;> rfl) | (symm; refine oper_Q ?_ ?_ <;> rfl)
theorem operF_eq (ty : Ty) (call : CallF) (fr : Fr) (h : Hp) (o : Oper) : operF o.op ty call fr h = oper ty call fr h o := by
  obtain ⟨dst, op, ty0, pos, after, guard⟩ := o
  cases op
  case move => exact f_move_eq _ dst ty0 pos after guard
  case assign => exact f_assign_eq _ dst ty0 pos after guard
  case pick => exact f_pick_eq _ _ _ dst ty0 pos after guard
  case alloc => exact f_alloc_eq _ dst ty0 pos after guard
  case box => exact f_box_eq _ _ dst ty0 pos after guard
  case build => exact f_build_eq _ _ dst ty0 pos after guard
  case buildSlice => exact f_buildSlice_eq _ _ _ dst ty0 pos after guard
  case insert => exact f_insert_eq _ _ _ _ dst ty0 pos after guard
  case load => exact f_load_eq _ _ dst ty0 pos after guard
  case store => exact f_store_eq _ _ _ dst ty0 pos after guard
  case ready => (symm; refine oper_E ?_ ?_ <;> rfl)
  case waits => (symm; refine oper_E ?_ ?_ <;> rfl)
  case nilCheck => exact f_nilCheck_eq _ dst ty0 pos after guard
  case binOp => exact f_binOp_eq _ _ _ _ _ dst ty0 pos after guard
  case unOp => exact f_unOp_eq _ _ _ dst ty0 pos after guard
  case convert => exact f_convert_eq _ _ _ dst ty0 pos after guard
  case sliceToArrayPointer => (symm; refine oper_E ?_ ?_ <;> rfl)
  case makeInterface => (symm; refine oper_E ?_ ?_ <;> rfl)
  case makeFunc => exact f_makeFunc_eq _ _ _ dst ty0 pos after guard
  case makeMap => exact f_makeMap_eq _ _ dst ty0 pos after guard
  case makeChan => (symm; refine oper_E ?_ ?_ <;> rfl)
  case makeSlice => exact f_makeSlice_eq _ _ _ dst ty0 pos after guard
  case slice => exact f_slice_eq _ _ _ _ _ dst ty0 pos after guard
  case fieldAddr => exact f_fieldAddr_eq _ _ _ dst ty0 pos after guard
  case field => exact f_field_eq _ _ _ dst ty0 pos after guard
  case indexAddr => exact f_indexAddr_eq _ _ _ dst ty0 pos after guard
  case index => exact f_index_eq _ _ _ dst ty0 pos after guard
  case lookup => exact f_lookup_eq _ _ _ _ dst ty0 pos after guard
  case mapUpdate => exact f_mapUpdate_eq _ _ _ _ dst ty0 pos after guard
  case mapEntry => (symm; refine oper_E ?_ ?_ <;> rfl)
  case entryStore => (symm; refine oper_E ?_ ?_ <;> rfl)
  case range => exact f_range_eq _ _ dst ty0 pos after guard
  case next => exact f_next_eq _ _ dst ty0 pos after guard
  case entry => exact f_entry_eq _ dst ty0 pos after guard
  case typeAssert => (symm; refine oper_E ?_ ?_ <;> rfl)
  case extract => exact f_extract_eq _ _ dst ty0 pos after guard
  case call => exact f_call_eq _ dst ty0 pos after guard
  case go => (symm; refine oper_E ?_ ?_ <;> rfl)
  case defer => (symm; refine oper_E ?_ ?_ <;> rfl)
  case panic => (symm; refine oper_E ?_ ?_ <;> rfl)
  case send => (symm; refine oper_E ?_ ?_ <;> rfl)
  case recv => (symm; refine oper_E ?_ ?_ <;> rfl)
  case select => (symm; refine oper_E ?_ ?_ <;> rfl)
end
abbrev RE := Outs
def bindF {α β : Type} (f : α → Option (List β)) (l : List α) : Option (List β) := List.rec (motive := fun _ => Option (List β)) (some []) (fun x t _ => List.rec (motive := fun _ => Option (List β)) (f x) (fun y u _ => bindL f (x :: y :: u)) t) l
theorem bindF_eq {α β : Type} (f : α → Option (List β)) (l : List α) : bindF f l = bindL f l := by
  cases l with
  | nil => rfl
  | cons x t => cases t <;> rfl
def wantG (ops : Array Oper) (fr : Fr) (p : Nat × Bool) : Option Bool := match ops.toList[p.1]? with
  | some q => match q.dst with
    | some d => match fr.get d with
      | some (.bool b) => some (b == p.2)
      | some (.tuple _) => some false
      | _ => none
    | none => none
  | none => none
def wantF (ops : Array Oper) (fr : Fr) (o : Oper) : Option Bool := Option.rec (motive := fun _ => Option Bool) (some true) (fun p => wantG ops fr p) o.guard
theorem wantF_eq (ops : Array Oper) (fr : Fr) (o : Oper) : wantF ops fr o = wantd ops fr o := by
  unfold wantF wantd
  cases o.guard with
  | none => rfl
  | some p => rfl
def putF (nt : Nat) (fr : Fr) (v : Value) (dst : Option Nat) : Option Fr := Option.rec (motive := fun _ => Option Fr) (some fr) (fun d => Bool.rec (motive := fun _ => Option Fr) none (some ⟨fr.t.put 40 d v, fr.ms⟩) (Nat.blt d nt)) dst
theorem putF_eq (nt : Nat) (fr : Fr) (v : Value) (dst : Option Nat) : putF nt fr v dst = putd nt fr dst v := by
  unfold putF putd
  cases dst with
  | none => rfl
  | some d => dsimp only; cases Nat.blt d nt <;> rfl
def opGo (nt : Nat) (o : Oper) (k : Fr → Hp → Option (List (Fr × Hp))) (fr : Fr) (r : Value × Hp) : Option (List (Fr × Hp)) := Prod.rec (motive := fun _ => Option (List (Fr × Hp))) (fun v h => o1 (putF nt fr v o.dst) (fun fr' => k fr' h)) r
def opStep (op : OpL) (nt : Nat) (all : Array Oper) (o : Oper) (k : Fr → Hp → Option (List (Fr × Hp))) (fr : Fr) (h : Hp) : Option (List (Fr × Hp)) :=
  o1 (wantF all fr o) (fun b => Bool.rec (motive := fun _ => Option (List (Fr × Hp))) (o1 (putF nt fr undef o.dst) (fun fr' => k fr' h)) (o1 (op fr h o) (bindF (opGo nt o k fr))) b)
def opsF (op : OpL) (nt : Nat) (all : Array Oper) (l : List Oper) : Fr → Hp → Option (List (Fr × Hp)) :=
  List.rec (motive := fun _ => Fr → Hp → Option (List (Fr × Hp))) (fun fr h => some [(fr, h)]) (fun o _ k => opStep op nt all o k) l
theorem opsF_eq (op : OpL) (nt : Nat) (all : Array Oper) : ∀ (l : List Oper) (fr : Fr) (h : Hp), opsF op nt all l fr h = opsL op nt all l fr h
  | [], fr, h => rfl
  | o :: l, fr, h => by
    show opStep op nt all o (opsF op nt all l) fr h = _
    have e : opsF op nt all l = opsL op nt all l := by funext fr h; exact opsF_eq op nt all l fr h
    rw [e]
    unfold opStep
    rw [opsL, wantF_eq]
    cases wantd all fr o with
    | none => rfl
    | some b =>
      cases b with
      | true =>
        show o1 (op fr h o) (bindF (opGo nt o (opsL op nt all l) fr)) = _
        dsimp only
        cases op fr h o with
        | none => rfl
        | some L =>
          show bindF _ L = _
          rw [bindF_eq]
          congr 1
          funext p
          obtain ⟨v, h'⟩ := p
          show o1 (putF nt fr v o.dst) _ = _
          rw [putF_eq]
          dsimp only
          cases putd nt fr o.dst v <;> rfl
      | false =>
        show o1 (putF nt fr undef o.dst) _ = _
        rw [putF_eq]
        dsimp only
        cases putd nt fr o.dst undef <;> rfl
def normF (fr : Fr) (h : Hp) : RE := some [(.normal, fr, h)]
def onP (q : Fr × Hp) (f : Fr → Hp → RE) : RE := Prod.rec (motive := fun _ => RE) f q
def seqF (f : Fr → Hp → RE) (p : Ex × Fr × Hp) : RE := Prod.rec (motive := fun _ => RE) (fun e q => Ex.rec (motive := fun _ => RE) (onP q f) (fun i => some [(.exit i, q)]) (fun i => some [(.goto i, q)]) (some [(.ret, q)]) e) p
theorem seqF_eq (f : Fr → Hp → RE) : seqF f = seqK f := by
  funext p
  obtain ⟨e, fr, h⟩ := p
  cases e <;> rfl
def onN (x : RE) (f : Fr → Hp → RE) : RE := o1 x (bindF (seqF f))
theorem onN_eq (x : RE) (f : Fr → Hp → RE) : onN x f = match x with | some L => bindL (seqK f) L | none => none := by
  unfold onN
  cases x with
  | none => rfl
  | some L =>
    show bindF _ L = _
    rw [bindF_eq, seqF_eq]
def mapN (L : List (Fr × Hp)) : List (Ex × Fr × Hp) := List.rec (motive := fun _ => List (Ex × Fr × Hp)) [] (fun p _ t => (.normal, p.1, p.2) :: t) L
theorem mapN_eq : ∀ L : List (Fr × Hp), mapN L = L.map fun p => (.normal, p.1, p.2)
  | [] => rfl
  | p :: L => by
    show (Ex.normal, p.1, p.2) :: mapN L = _
    rw [mapN_eq L]
    rfl
def blockF (id : Nat) (p : Ex × Fr × Hp) : Ex × Fr × Hp := Prod.rec (motive := fun _ => Ex × Fr × Hp) (fun e q => Ex.rec (motive := fun _ => Ex × Fr × Hp) (.normal, q) (fun i => Bool.rec (motive := fun _ => Ex × Fr × Hp) (.exit i, q) (.normal, q) (Nat.beq i id)) (fun i => (.goto i, q)) (.ret, q) e) p
theorem blockF_eq (id : Nat) (p : Ex × Fr × Hp) : blockF id p = blockK id p := by
  obtain ⟨e, q⟩ := p
  cases e with
  | exit i =>
    unfold blockF blockK
    dsimp only
    cases Nat.beq i id <;> rfl
  | normal => rfl
  | goto i => rfl
  | ret => rfl
def mapB (id : Nat) (L : List (Ex × Fr × Hp)) : List (Ex × Fr × Hp) := List.rec (motive := fun _ => List (Ex × Fr × Hp)) [] (fun p _ t => blockF id p :: t) L
theorem mapB_eq (id : Nat) : ∀ L : List (Ex × Fr × Hp), mapB id L = L.map (blockK id)
  | [] => rfl
  | p :: L => by
    show blockF id p :: mapB id L = _
    rw [mapB_eq id L, blockF_eq]
    rfl
def sameF (l : List (Value × Hp)) : Option (Value × Hp) := List.rec (motive := fun _ => Option (Value × Hp)) none (fun x t _ => List.rec (motive := fun _ => Option (Value × Hp)) (some x) (fun y u _ => same1 (x :: y :: u)) t) l
theorem sameF_eq (l : List (Value × Hp)) : sameF l = same1 l := by
  cases l with
  | nil => rfl
  | cons x t => cases t <;> rfl
section
variable (op : CallF → OpL) (dr : CallF → Nat → Array Oper → Fr → Hp → Option (Fr × Hp))
abbrev ArmF := CallF → (Nat → Code → Fr → Hp → RE) → Nat → Nat → Fr → Hp → RE
def aNorm : ArmF := fun _ _ _ _ fr h => some [(.normal, fr, h)]
def aNone : ArmF := fun _ _ _ _ _ _ => none
def aExit (i : Nat) : ArmF := fun _ _ _ _ fr h => some [(.exit i, fr, h)]
def aGoto (i : Nat) : ArmF := fun _ _ _ _ fr h => some [(.goto i, fr, h)]
def aRet : ArmF := fun _ _ _ _ fr h => some [(.ret, fr, h)]
def aRegion (ops : Array Oper) (draw : Bool) : ArmF := fun cb _ _ nt fr h =>
  Bool.rec (motive := fun _ => RE) (o1 (opsF (op cb) nt ops ops.toList fr h) (fun L => some (mapN L))) (o1 (dr cb nt ops fr h) (fun r => onP r normF)) draw
def aSeq (a b : Code) : ArmF := fun _ self _ nt fr h => onN (self nt a fr h) (fun fr h => self nt b fr h)
def aBool (x : Value) (t f : RE) : RE := match x with
  | .bool b => Bool.rec (motive := fun _ => RE) f t b
  | _ => none
def aCond (x : Operand) (a b : Code) : ArmF := fun _ self _ nt fr h => o1 (ev1F x fr) (fun v => aBool v (self nt a fr h) (self nt b fr h))
def aBlock (id : Nat) (b : Code) : ArmF := fun _ self _ nt fr h =>
  o1 (self nt b fr h) (fun L => some (mapB id L))
def aLoop (b : Code) : ArmF := fun _ self _ nt fr h => onN (self nt b fr h) (fun fr h => self nt (.loop b) fr h)
def aScope (c : Code) : ArmF := fun _ self n nt fr h => bif fr.ms.isSome then scopeF (self nt) c n c fr h else none
def aRange (g : Operand) (ps : Array Tmp) (as bd : Code) : ArmF := fun cb self _ nt fr h => match fr.ms, ev1 fr g with
  | some ms, some (.func (.func gf) f cs) => bif f.isEmpty && Nat.blt h.next 400000000 then
      match cb (.fn gf) (.func (.yield (h.next + 1)) #[] #[] :: cs.toList) ⟨(h.heap.put 40 h.next .defd).put 40 (h.next + 1) (.loop .ready none fr.t nt ps as bd), h.next + 2, h.tab⟩ with
      | some (_, h2) => match h2.heap.get (h.next + 1) with
        | some (.loop st pend _ _ _ _ _) => bif isBusy st then none else
          match pend with
          | none => some [(.normal, ⟨fr.t, some (h.next :: ms)⟩, ⟨h2.heap.del (h.next + 1), h2.next, h2.tab⟩)]
          | some c => self nt c ⟨fr.t, some (h.next :: ms)⟩ ⟨h2.heap.del (h.next + 1), h2.next, h2.tab⟩
        | _ => none
      | none => none
    else none
  | _, _ => none
def codeF (c : Code) : ArmF := Code.rec (motive := fun _ => ArmF) aNorm (fun _ ops draw => aRegion op dr ops draw) (fun a b _ _ => aSeq a b) (fun x a b _ _ => aCond x a b) (fun id b _ => aBlock id b) (fun b _ => aLoop b) (fun g ps as bd _ _ => aRange g ps as bd) aExit (fun c _ => aScope c) (fun _ => aNorm) aGoto aRet (fun _ => aNone) c
variable (fns : Tr Func) (res : Func → Fr → Hp → Option Value)
def backF (fn : Func) (q : Fr × Hp) : Option (List (Value × Hp)) := Prod.rec (motive := fun _ => Option (List (Value × Hp))) (fun fr h => o1 (closeM (fr.ms.getD []) h) (fun h1 => o1 (res fn fr h1) (fun v => some [(v, h1)]))) q
def backG (fn : Func) (p : Ex × Fr × Hp) : Option (List (Value × Hp)) := Prod.rec (motive := fun _ => Option (List (Value × Hp))) (fun e q => Ex.rec (motive := fun _ => Option (List (Value × Hp))) (backF res fn q) (fun _ => none) (fun _ => none) (backF res fn q) e) p
theorem backG_eq (fn : Func) : backG res fn = backL res fn := by
  funext p
  obtain ⟨e, fr, h⟩ := p
  have key : backF res fn (fr, h) = match closeM (fr.ms.getD []) h with
    | some h1 => match res fn fr h1 with
      | some v => some [(v, h1)]
      | none => none
    | none => none := by
    show o1 (closeM (fr.ms.getD []) h) _ = _
    cases closeM (fr.ms.getD []) h with
    | none => rfl
    | some h1 =>
      show o1 (res fn fr h1) _ = _
      dsimp only
      cases res fn fr h1 <;> rfl
  cases e with
  | normal => exact key
  | exit i => rfl
  | goto i => rfl
  | ret => exact key
def callFn (evn : Nat → Code → Fr → Hp → RE) (fn : Func) (args : List Value) (h : Hp) (b : Code) : Option (Value × Hp) :=
  Bool.rec (motive := fun _ => Option (Value × Hp)) none (o1 (evn fn.ntmps b ⟨Tr.ofL args 0 .lf, some []⟩ h) (fun L => o1 (bindF (backG res fn) L) sameF)) (Nat.ble args.length fn.ntmps && Nat.blt fn.ntmps 549755813888)
def callY (evn : Nat → Code → Fr → Hp → RE) : CallF := fun c args h => Ce.rec (motive := fun _ => Option (Value × Hp)) (fun f => o1 (fns.get f) (fun fn => o1 fn.body (callFn res evn fn args h))) (fun i => callB fns res evn (.yl i) args h) c
theorem callY_eq (evn : Nat → Code → Fr → Hp → RE) (c : Ce) (args : List Value) (h : Hp) : callY fns res evn c args h = callB fns res evn c args h := by
  cases c with
  | yl i => rfl
  | fn f =>
    unfold callY callB
    dsimp only
    cases fns.get f with
    | none => rfl
    | some fn =>
      show o1 fn.body _ = _
      dsimp only
      cases fn.body with
      | none => rfl
      | some b =>
        show callFn res evn fn args h b = _
        unfold callFn
        dsimp only
        cases (Nat.ble args.length fn.ntmps && Nat.blt fn.ntmps 549755813888) with
        | false => rfl
        | true =>
          dsimp only [cond_true]
          cases evn fn.ntmps b ⟨Tr.ofL args 0 .lf, some []⟩ h with
          | none => rfl
          | some L =>
            show o1 (bindF (backG res fn) L) sameF = _
            rw [bindF_eq, backG_eq]
            dsimp only
            cases bindL (backL res fn) L with
            | none => rfl
            | some M => exact sameF_eq M
def evY (n : Nat) : Nat → Code → Fr → Hp → RE := Nat.rec (motive := fun _ => Nat → Code → Fr → Hp → RE) (fun _ _ _ _ => none) (fun n self nt c => codeF op dr c (callY fns res self) self n nt) n
theorem evY_eq : ∀ (n nt : Nat) (c : Code) (fr : Fr) (h : Hp), evY op dr fns res n nt c fr h = ev fns op dr res n nt c fr h
  | 0, _, _, _, _ => rfl
  | n + 1, nt, c, fr, h => by
    show codeF op dr c (callY fns res (evY op dr fns res n)) (evY op dr fns res n) n nt fr h = _
    have e : evY op dr fns res n = ev fns op dr res n := by funext nt c fr h; exact evY_eq n nt c fr h
    rw [e]
    have e2 : callY fns res (ev fns op dr res n) = callB fns res (ev fns op dr res n) := by funext c a h; exact callY_eq fns res _ c a h
    rw [e2]
    cases c with
    | skip => rfl
    | label _ => rfl
    | exit i => rfl
    | goto i => rfl
    | ret => rfl
    | refuse _ => rfl
    | region k ops draw =>
      show aRegion op dr ops draw (callB fns res (ev fns op dr res n)) (ev fns op dr res n) n nt fr h = _
      unfold aRegion
      rw [ev]
      cases draw with
      | true =>
        show o1 (dr _ nt ops fr h) _ = _
        dsimp only [cond_true]
        cases dr (callB fns res (ev fns op dr res n)) nt ops fr h <;> rfl
      | false =>
        show o1 (opsF _ nt ops ops.toList fr h) _ = _
        rw [opsF_eq]
        dsimp only [cond_false]
        cases opsL (op (callB fns res (ev fns op dr res n))) nt ops ops.toList fr h with
        | none => rfl
        | some L => exact congrArg some (mapN_eq L)
    | seq a b => show onN _ _ = _; rw [onN_eq, ev]; rfl
    | loop b => show onN _ _ = _; rw [onN_eq, ev]; rfl
    | cond x a b =>
      show o1 (ev1F x fr) _ = _
      rw [ev1F_eq, ev]
      cases ev1 fr x with
      | none => rfl
      | some v => cases v <;> first | rfl | (rename_i t; cases t <;> rfl)
    | block id b =>
      show aBlock id b (callB fns res (ev fns op dr res n)) (ev fns op dr res n) n nt fr h = _
      unfold aBlock
      rw [ev]
      cases ev fns op dr res n nt b fr h with
      | none => rfl
      | some L => exact congrArg some (mapB_eq id L)
    | scope c => rfl
    | rangeFunc g ps as bd => rfl
end
def callXF (ex : Nat → List Value → Option Value) (call : CallF) : CallF := fun c args h => Ce.rec (motive := fun _ => Option (Value × Hp)) (fun f => Option.rec (motive := fun _ => Option (Value × Hp)) (call (.fn f) args h) (fun v => some (v, h)) (ex f args)) (fun i => call (.yl i) args h) c
theorem callXF_eq (ex : Nat → List Value → Option Value) (call : CallF) : callXF ex call = callX ex call := by
  funext c args h
  cases c with
  | yl i => rfl
  | fn f =>
    unfold callXF callX
    dsimp only
    cases ex f args <;> rfl
def operLF (ty : Ty) (call : CallF) (fr : Fr) (h : Hp) (o : Oper) : Option (List (Value × Hp)) := Option.rec (motive := fun _ => Option (List (Value × Hp))) (nextL fr h o) (fun p => some [p]) (operF o.op ty call fr h)
theorem operLF_eq (ty : Ty) (call : CallF) : operLF ty call = operL ty call := by
  funext fr h o
  unfold operLF operL
  rw [operF_eq]
  cases oper ty call fr h o <;> rfl
def evYF (ty : Ty) (ex : Nat → List Value → Option Value) (fns : Tr Func) (n : Nat) : Nat → Code → Fr → Hp → RE :=
  evY (fun call => operLF ty (callXF ex call)) (fun call nt ops fr h => drawn ty (fun fr h o => operF o.op ty (callXF ex call) fr h) nt ops fr h) fns (resE ty) n
/-- a function's run, fast -/
def runY (ty : Ty) (ex : Nat → List Value → Option Value) (fns : Tr Func) (n f : Nat) (args : List Value) (h : Hp) : Option (Value × Hp) := callY fns (resE ty) (evYF ty ex fns n) (.fn f) args h
theorem runY_eq (ty : Ty) (ex : Nat → List Value → Option Value) (fns : Tr Func) (n f : Nat) (args : List Value) (h : Hp) : runY ty ex fns n f args h = runF ty ex fns n f args h := by
  unfold runY runF
  rw [callY_eq]
  have e0 : (fun (call : CallF) (fr : Fr) (h : Hp) (o : Oper) => operF o.op ty (callXF ex call) fr h) = fun call => oper ty (callX ex call) := by
    funext call fr h o
    rw [operF_eq, callXF_eq]
  have e1 : (fun (call : CallF) => operLF ty (callXF ex call)) = fun call => operL ty (callX ex call) := by
    funext call
    rw [operLF_eq, callXF_eq]
  have e2 : (fun (call : CallF) (nt : Nat) (ops : Array Oper) (fr : Fr) (h : Hp) => drawn ty (fun fr h o => operF o.op ty (callXF ex call) fr h) nt ops fr h) = fun call nt ops fr h => drawn ty (oper ty (callX ex call)) nt ops fr h := by
    funext call nt ops fr h
    rw [show (fun (fr : Fr) (h : Hp) (o : Oper) => operF o.op ty (callXF ex call) fr h) = oper ty (callX ex call) from congrFun e0 call]
  have e3 : evYF ty ex fns n = evF ty ex fns n := by
    funext nt c fr h
    unfold evYF evF
    rw [evY_eq, e1, e2]
  rw [e3]
end Go.Ev
