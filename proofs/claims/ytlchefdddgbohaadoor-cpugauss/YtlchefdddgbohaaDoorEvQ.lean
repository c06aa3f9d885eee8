/- Single operations of the evaluator: places in lists, parts, len, calls. -/
import Derived.Test.YtlchefdddgbohaaDoorEvT
import GoSem.Core.Code
import GoSem.Core.View
import Derived.Below
import Derived.Calls
import Derived.Laws.AppendOwn
import Derived.Laws.World
import Derived.Laws.CopyRow
import Derived.LoopNIn
import Derived.OrdersIn
import Derived.RangeFuncLeaves
import Derived.RangeFuncRecord
import Derived.RangeFuncSeq
import Derived.ScopeJumps
import Derived.Laws.Sem
import Derived.Laws.Entries
import Derived.Laws.Cells
import Derived.Laws.StructEq
import GoSem.Dispatch
/- Values and heaps over names, and the true ones. -/
noncomputable section
namespace Go.Ev
open Go.RowKit
set_option linter.unusedVariables false

structure Blk where
  cells : List Value
  elem : Nat
  grow : Bool
/-- what a name stands for: cells, a map, the place of deferred calls, a range over a function -/
inductive Ob where
  | row (b : Blk)
  | map (es : List (Value × Value × Nat)) (clock : Nat)
  | defd
  | loop (st : LoopState) (pend : Option Code) (fr : Tr Value) (nt : Nat) (ps : Array Tmp) (as bd : Code)
  | iter (m : Option Nat) (since : Nat) (seen : List Nat) (last : Nat)
structure Hp where
  heap : Tr Ob
  next : Nat
  tab : Tr (List Value)
/-- 'as much as there is' -/
def many : Nat := 36893488147419103232

/-- which block a name is, how many elements it has room for, which names are given, and how many there are -/
structure Rn where
  ρ : Nat → Nat
  κ : Nat → Nat
  D : Nat → Prop
  N : Nat
/-- names above 'many' are the blocks of tables themselves -/
def rb (R : Rn) (i : Nat) : Nat := if many < i then i - (many + 1) else R.ρ i
def Nm (R : Rn) (i : Nat) : Prop := R.D i ∨ many < i
def ra (R : Rn) (a : Addr) : Addr := ⟨rb R a.block, a.off, none⟩
def lit : Value → Bool
  | .bool _ | .int _ _ | .float _ _ | .complex _ _ _ | .string _ | .pointer none | .nilFunc | .nilIface => true
  | .slice none 0 0 => true
  | .func (.func _) f c => f.isEmpty && c.isEmpty
  | .map none => true
  | _ => false
/-- the same, one by one -/
def A2 (r : Value → Value → Prop) (l m : List Value) : Prop := l.length = m.length ∧ ∀ (i : Nat) (v : Value), l[i]? = some v → ∃ v', m[i]? = some v' ∧ r v v'
inductive BR (R : Rn) : Value → Value → Prop
  | lit (v : Value) : lit v = true → BR R v v
  | ptr (a : Addr) : a.spot = none → Nm R a.block → BR R (.pointer (some a)) (.pointer (some (ra R a)))
  | sl (a : Addr) (n c : Nat) : a.spot = none → Nm R a.block → c < many → BR R (.slice (some a) n c) (.slice (some (ra R a)) n c)
  | slg (a : Addr) (n c : Nat) : a.spot = none → R.D a.block → a.block < many → n ≤ c → (a.off = 0 → c = R.κ a.block) → BR R (.slice (some a) n many) (.slice (some (ra R a)) n c)
  | sle (a : Option Addr) (c : Nat) : BR R (.slice (some ⟨many, 0, none⟩) 0 many) (.slice a 0 c)
  | mp (i : Nat) : R.D i → BR R (.map (some i)) (.map (some (R.ρ i)))
  | yl (i : Nat) : R.D i → BR R (.func (.yield i) #[] #[]) (.func (.yield (R.ρ i)) #[] #[])
inductive SR (R : Rn) : Value → Value → Prop
  | lit (v : Value) : lit v = true → SR R v v
  | ptr (a : Addr) : a.spot = none → Nm R a.block → SR R (.pointer (some a)) (.pointer (some (ra R a)))
  | sl (a : Addr) (n c : Nat) : a.spot = none → Nm R a.block → c < many → SR R (.slice (some a) n c) (.slice (some (ra R a)) n c)
  | slg (a : Addr) (n c : Nat) : a.spot = none → R.D a.block → a.block < many → n ≤ c → (a.off = 0 → c = R.κ a.block) → SR R (.slice (some a) n many) (.slice (some (ra R a)) n c)
  | sle (a : Option Addr) (c : Nat) : SR R (.slice (some ⟨many, 0, none⟩) 0 many) (.slice a 0 c)
  | mp (i : Nat) : R.D i → SR R (.map (some i)) (.map (some (R.ρ i)))
  | yl (i : Nat) : R.D i → SR R (.func (.yield i) #[] #[]) (.func (.yield (R.ρ i)) #[] #[])
  | fn (g : Nat) (f c f' c' : Array Value) : A2 (BR R) f.toList f'.toList → A2 (BR R) c.toList c'.toList → SR R (.func (.func g) f c) (.func (.func g) f' c')
theorem BR.sr {R : Rn} {v v' : Value} (h : BR R v v') : SR R v v' := by
  cases h with
  | lit v h => exact .lit v h
  | ptr a h k => exact .ptr a h k
  | sl a n c h k l => exact .sl a n c h k l
  | slg a n c h k l m o => exact .slg a n c h k l m o
  | sle a c => exact .sle a c
  | mp i h => exact .mp i h
  | yl i h => exact .yl i h
def VR0 (R : Rn) (v v' : Value) : Prop := SR R v v' ∨ ∃ cs cs' : Array Value, v = .agg cs ∧ v' = .agg cs' ∧ A2 (SR R) cs.toList cs'.toList
def VR (R : Rn) (v v' : Value) : Prop := VR0 R v v' ∨ ∃ vs vs' : Array Value, v = .tuple vs ∧ v' = .tuple vs' ∧ A2 (VR0 R) vs.toList vs'.toList
/-- more names -/
structure Ext0 (R R' : Rn) : Prop where
  le : R.N ≤ R'.N
  D : ∀ i, R.D i → R'.D i
  ρ : ∀ i, R.D i → R'.ρ i = R.ρ i
  κ : ∀ i, R.D i → R'.κ i = R.κ i
/-- and the new ones are new -/
structure Ext (R R' : Rn) : Prop extends Ext0 R R' where
  nw : ∀ i, R'.D i → i < R.N → R.D i
theorem Ext.weak {R R' : Rn} (h : Ext R R') : Ext0 R R' := h.toExt0
instance (R R' : Rn) : Coe (Ext R R') (Ext0 R R') := ⟨Ext.weak⟩
theorem Ext0.trans {A B C : Rn} (h : Ext0 A B) (k : Ext0 B C) : Ext0 A C :=
  ⟨Nat.le_trans h.le k.le, fun i hi => k.D i (h.D i hi), fun i hi => (k.ρ i (h.D i hi)).trans (h.ρ i hi), fun i hi => (k.κ i (h.D i hi)).trans (h.κ i hi)⟩
theorem Ext.refl (R : Rn) : Ext R R := ⟨⟨Nat.le_refl _, fun _ h => h, fun _ _ => rfl, fun _ _ => rfl⟩, fun _ h _ => h⟩
theorem Ext.trans {A B C : Rn} (h : Ext A B) (k : Ext B C) : Ext A C :=
  ⟨h.toExt0.trans k.toExt0, fun i hi hl => h.nw i (k.nw i hi (Nat.lt_of_lt_of_le hl h.le)) hl⟩
theorem Nm.ext {R R' : Rn} (h : Ext0 R R') {i : Nat} (hi : Nm R i) : Nm R' i := hi.imp (h.D i) id
theorem rb_ext {R R' : Rn} (h : Ext0 R R') {i : Nat} (hi : Nm R i) : rb R' i = rb R i := by
  unfold rb
  split
  · rfl
  · rename_i hn
    rcases hi with hi | hi
    · exact h.ρ i hi
    · exact absurd hi hn
theorem ra_ext {R R' : Rn} (h : Ext0 R R') {a : Addr} (ha : Nm R a.block) : ra R' a = ra R a := by
  unfold ra
  rw [rb_ext h ha]
theorem A2.mono {r r' : Value → Value → Prop} {l m : List Value} (h : A2 r l m) (hr : ∀ v v', r v v' → r' v v') : A2 r' l m :=
  ⟨h.1, fun i v hv => by obtain ⟨v', h1, h2⟩ := h.2 i v hv; exact ⟨v', h1, hr _ _ h2⟩⟩
theorem BR.ext {R R' : Rn} {v v' : Value} (h : BR R v v') (e : Ext0 R R') : BR R' v v' := by
  cases h with
  | lit v hl => exact .lit v hl
  | ptr a h0 ha => rw [← ra_ext e ha]; exact .ptr a h0 (ha.ext e)
  | sl a n c h0 ha hc => rw [← ra_ext e ha]; exact .sl a n c h0 (ha.ext e) hc
  | slg a n c h0 ha hm hn hk => rw [← ra_ext e (.inl ha)]; exact .slg a n c h0 (e.D _ ha) hm hn (fun h0 => (hk h0).trans (e.κ _ ha).symm)
  | sle a c => exact .sle a c
  | mp i h => rw [← e.ρ i h]; exact .mp i (e.D i h)
  | yl i h => rw [← e.ρ i h]; exact .yl i (e.D i h)
theorem SR.ext {R R' : Rn} {v v' : Value} (h : SR R v v') (e : Ext0 R R') : SR R' v v' := by
  cases h with
  | lit v hl => exact .lit v hl
  | ptr a h0 ha => exact (BR.ext (.ptr a h0 ha) e).sr
  | sl a n c h0 ha hc => exact (BR.ext (.sl a n c h0 ha hc) e).sr
  | slg a n c h0 ha hm hn hk => exact (BR.ext (.slg a n c h0 ha hm hn hk) e).sr
  | sle a c => exact .sle a c
  | mp i h => exact (BR.ext (.mp i h) e).sr
  | yl i h => exact (BR.ext (.yl i h) e).sr
  | fn g f c f' c' h1 h2 => exact .fn g f c f' c' (h1.mono fun _ _ h => h.ext e) (h2.mono fun _ _ h => h.ext e)
def base : Value → Bool
  | .func (.func _) f c => f.isEmpty && c.isEmpty
  | _ => true
theorem SR.br {R : Rn} {v v' : Value} (h : SR R v v') (hb : base v = true) : BR R v v' := by
  cases h with
  | lit v hl => exact .lit v hl
  | ptr a h0 ha => exact .ptr a h0 ha
  | sl a n c h0 ha hc => exact .sl a n c h0 ha hc
  | slg a n c h0 ha hm hn hk => exact .slg a n c h0 ha hm hn hk
  | sle a c => exact .sle a c
  | mp i h => exact .mp i h
  | yl i h => exact .yl i h
  | fn g f c f' c' h1 h2 =>
    unfold base at hb
    rw [Bool.and_eq_true, Array.isEmpty_iff, Array.isEmpty_iff] at hb
    obtain ⟨rfl, rfl⟩ := hb
    have e1 : f' = #[] := by
      have := h1.1
      simp at this
      exact Array.eq_empty_of_size_eq_zero this.symm
    have e2 : c' = #[] := by
      have := h2.1
      simp at this
      exact Array.eq_empty_of_size_eq_zero this.symm
    subst e1
    subst e2
    exact .lit _ rfl
theorem VR0.ext {R R' : Rn} {v v' : Value} (h : VR0 R v v') (e : Ext0 R R') : VR0 R' v v' := by
  rcases h with h | ⟨cs, cs', h1, h2, h3⟩
  · exact .inl (h.ext e)
  · exact .inr ⟨cs, cs', h1, h2, h3.mono fun _ _ h => h.ext e⟩
theorem VR.ext {R R' : Rn} {v v' : Value} (h : VR R v v') (e : Ext0 R R') : VR R' v v' := by
  rcases h with h | ⟨cs, cs', h1, h2, h3⟩
  · exact .inl (h.ext e)
  · exact .inr ⟨cs, cs', h1, h2, h3.mono fun _ _ h => h.ext e⟩
theorem VR.lit {R : Rn} {v : Value} (h : lit v = true) : VR R v v := .inl (.inl (.lit v h))
theorem VR.undef {R : Rn} : VR R (.tuple #[]) (.tuple #[]) := .inr ⟨#[], #[], rfl, rfl, rfl, fun i v h => by simp at h⟩

/-- a frame: its variables, and where its ranges over functions keep deferred calls ('none': it is a round's) -/
structure Fr where
  t : Tr Value
  ms : Option (List Nat)
def Fr.get (fr : Fr) (k : Nat) : Option Value := fr.t.get k
def Fr.put (fr : Fr) (n k : Nat) (v : Value) : Fr := ⟨fr.t.put n k v, fr.ms⟩
/-- variables -/
def TR (R : Rn) (t : Tr Value) (tmps : Array Value) : Prop := ∀ k v, t.get k = some v → ∃ v', tmps[k]? = some v' ∧ VR R v v'
def marks (R : Rn) (ms : Option (List Nat)) : List Deferred := (ms.getD []).map fun i => { target := .collected (R.ρ i), args := #[] }
def MK (R : Rn) (rd : Option Nat) (ms : Option (List Nat)) (ds : List Deferred) : Prop := ds = marks R ms ∧ (∀ i ∈ ms.getD [], R.D i) ∧ (ms.isSome = true → rd = none)
def FR (R : Rn) (rd : Option Nat) (nt : Nat) (fr : Fr) (a : Act) : Prop := nt ≤ a.tmps.size ∧ nt < 549755813888 ∧ MK R rd fr.ms a.defers ∧ ∀ t v, fr.get t = some v → ∃ v', a.tmps[t]? = some v' ∧ VR R v v'
theorem marks_ext {R R' : Rn} (e : Ext0 R R') {ms : Option (List Nat)} (h : ∀ i ∈ ms.getD [], R.D i) : marks R' ms = marks R ms := by
  unfold marks
  exact List.map_congr_left fun i hi => by rw [e.ρ i (h i hi)]
theorem MK.ext {R R' : Rn} {rd : Option Nat} {ms : Option (List Nat)} {ds : List Deferred} (h : MK R rd ms ds) (e : Ext0 R R') : MK R' rd ms ds :=
  ⟨h.1.trans (marks_ext e h.2.1).symm, fun i hi => e.D i (h.2.1 i hi), h.2.2⟩
theorem FR.ext {R R' : Rn} {rd : Option Nat} {nt : Nat} {fr : Fr} {a : Act} (h : FR R rd nt fr a) (e : Ext0 R R') : FR R' rd nt fr a :=
  ⟨h.1, h.2.1, h.2.2.1.ext e, fun t v ht => by obtain ⟨v', h1, h2⟩ := h.2.2.2 t v ht; exact ⟨v', h1, h2.ext e⟩⟩
theorem FR.put {R : Rn} {rd : Option Nat} {nt : Nat} {fr : Fr} {a : Act} (h : FR R rd nt fr a) {d : Nat} (hd : d < nt) {v v' : Value} (hv : VR R v v') : FR R rd nt (fr.put 40 d v) (a.put (some d) v') := by
  refine ⟨by simpa [Act.put] using h.1, h.2.1, h.2.2.1, fun t x hx => ?_⟩
  change (fr.t.put 40 d v).get t = some x at hx
  rw [Tr.get_put 40 fr.t d v t (by have := h.2.1; omega)] at hx
  by_cases e : t = d
  · subst e
    rw [if_pos rfl] at hx
    cases hx
    exact ⟨v', Array.getElem?_setIfInBounds_self_of_lt (Nat.lt_of_lt_of_le hd h.1), hv⟩
  · rw [if_neg e] at hx
    obtain ⟨x', h1, h2⟩ := h.2.2.2 t x hx
    refine ⟨x', ?_, h2⟩
    simp only [Act.put]
    rw [Array.getElem?_setIfInBounds_ne (fun e' => e e'.symm)]
    exact h1

/-- what is kept: blocks, and the tables -/
structure Fx where
  blk : Nat → Prop
  tab : Tr (List Value)
instance : CoeFun Fx fun _ => Nat → Prop := ⟨Fx.blk⟩
/-- what stays as it was: the blocks of Φ -/
structure Stay (Φ : Fx) (w w' : World) : Prop where
  os : w'.os = w.os
  tape : w'.tape = w.tape
  output : w'.output = w.output
  size : w.heap.size ≤ w'.heap.size
  block : ∀ k, Φ k → w'.heap[k]? = w.heap[k]?
theorem Stay.refl (Φ : Fx) (w : World) : Stay Φ w w := ⟨rfl, rfl, rfl, Nat.le_refl _, fun _ _ => rfl⟩
theorem Stay.trans {Φ : Fx} {a b c : World} (h : Stay Φ a b) (k : Stay Φ b c) : Stay Φ a c :=
  ⟨k.os.trans h.os, k.tape.trans h.tape, k.output.trans h.output, Nat.le_trans h.size k.size, fun i hi => (k.block i hi).trans (h.block i hi)⟩
theorem Stay.mono {Φ Ψ : Fx} {a b : World} (h : Stay Φ a b) (hp : ∀ k, Ψ k → Φ k) : Stay Ψ a b :=
  ⟨h.os, h.tape, h.output, h.size, fun k hk => h.block k (hp k hk)⟩
/-- entries of a map -/
inductive ER (R : Rn) : List (Value × Value × Nat) → List MapEntry → Prop
  | nil : ER R [] []
  | cons (k v v' : Value) (n : Nat) (l : List (Value × Value × Nat)) (l' : List MapEntry) : VR0 R v v' → ER R l l' → ER R ((k, v, n) :: l) (⟨k, v', n⟩ :: l')
theorem ER.ext {R R' : Rn} (e : Ext0 R R') {l : List (Value × Value × Nat)} {l' : List MapEntry} (h : ER R l l') : ER R' l l' := by
  induction h with
  | nil => exact .nil
  | cons k v v' n l l' hv _ ih => exact .cons k v v' n l l' (hv.ext e) ih
/-- what a name stands for, and what lies there -/
def RowR (sz : Nat → Nat) (R : Rn) (i : Nat) (b : Blk) (cur : Array Value) : Prop :=
  (∀ (j : Nat) (v : Value), b.cells[j]? = some v → ∃ v', cur[j]? = some v' ∧ SR R v v') ∧ (b.grow = false → cur.size = b.cells.length) ∧ (b.grow = true → R.κ i ≤ maxLen ∧ cur.size = R.κ i * sz b.elem)
def OR (sz : Nat → Nat) (R : Rn) (i : Nat) : Ob → Obj → Prop
  | .row b, o => ∃ cur, o = .cells cur b.elem (0, 0) ∧ RowR sz R i b cur
  | .map es ck, o => ∃ es', o = .map es' ck ∧ ER R es es'.toList
  | .defd, o => o = .deferred (some [])
  | .iter m since seen last, o => o = .mapIter (m.map R.ρ) since seen.toArray last ∧ ∀ i, m = some i → R.D i
  | .loop st pend fr nt ps as bd, o => ∃ l : Loop, o = .loop l ∧ l.state = st ∧ l.pending = pend ∧ l.params = ps ∧ l.assign = as ∧ l.body = bd ∧ nt ≤ l.tmps.size ∧ nt < 549755813888 ∧ TR R fr l.tmps
theorem OR.ext {sz : Nat → Nat} {R R' : Rn} (e : Ext0 R R') {i : Nat} (hi : R.D i) {b : Ob} {o : Obj} (h : OR sz R i b o) : OR sz R' i b o := by
  cases b with
  | row b =>
    obtain ⟨cur, h1, h2, h3, h4⟩ := h
    refine ⟨cur, h1, fun j v hv => ?_, h3, fun hg => ?_⟩
    · obtain ⟨v', h5, h6⟩ := h2 j v hv
      exact ⟨v', h5, h6.ext e⟩
    · rw [e.κ i hi]; exact h4 hg
  | map es ck =>
    obtain ⟨es', h1, h2⟩ := h
    exact ⟨es', h1, h2.ext e⟩
  | defd => exact h
  | iter m since seen last =>
    obtain ⟨h1, h2⟩ := h
    refine ⟨?_, fun i hi => e.D i (h2 i hi)⟩
    rw [h1]
    cases m with
    | none => rfl
    | some i => simp [e.ρ i (h2 i rfl)]
  | loop st pend fr nt ps as bd =>
    obtain ⟨l, h1, h2, h3, h4, h5, h6, h7, h8, h9⟩ := h
    refine ⟨l, h1, h2, h3, h4, h5, h6, h7, h8, fun k v hv => ?_⟩
    obtain ⟨v', h10, h11⟩ := h9 k v hv
    exact ⟨v', h10, h11.ext e⟩
/-- a heap -/
structure HR (sz : Nat → Nat) (w0 : World) (Φ : Fx) (R : Rn) (w : World) (h : Hp) : Prop where
  nx : h.next = R.N
  small : R.N < 549755813888
  bel : Stay Φ w0 w
  frm : ∀ k, Φ k → k < w0.heap.size
  dom : ∀ i, R.D i → i < R.N
  blk : ∀ i b, h.heap.get i = some b → R.D i ∧ ¬ Φ (R.ρ i) ∧ ∃ o, w.heap[R.ρ i]? = some o ∧ OR sz R i b o
  inj : ∀ i j b c, h.heap.get i = some b → h.heap.get j = some c → R.ρ i = R.ρ j → i = j
  tabE : h.tab = Φ.tab
  tab : ∀ g l, h.tab.get g = some l → Φ g ∧ ∃ cur e z, w.heap[g]? = some (.cells cur e z) ∧ A2 (SR R) l cur.toList
/-- operands -/
def ev1 (fr : Fr) : Operand → Option Value
  | .tmp t => fr.get t
  | .const v => bif lit v then some v else none
  | .global g => some (.pointer (some ⟨many + 1 + g, 0, none⟩))
  | .func f => some (.func (.func f) #[] #[])
theorem ev1_is {R : Rn} {rd : Option Nat} {nt : Nat} {fr : Fr} {a : Act} (h : FR R rd nt fr a) {x : Operand} {v : Value} (hx : ev1 fr x = some v) : ∃ v', a.eval x = v' ∧ VR R v v' := by
  cases x with
  | tmp t =>
    obtain ⟨v', h1, h2⟩ := h.2.2.2 t v hx
    exact ⟨v', by simp [Act.eval, h1], h2⟩
  | const c =>
    change (bif lit c then some c else none) = some v at hx
    cases hl : lit c with
    | true => rw [hl] at hx; cases hx; exact ⟨_, rfl, VR.lit hl⟩
    | false => rw [hl] at hx; cases hx
  | global g =>
    cases hx
    refine ⟨_, rfl, .inl (.inl ?_)⟩
    have := SR.ptr (R := R) ⟨many + 1 + g, 0, none⟩ rfl (.inr (by show many < many + 1 + g; omega))
    have e : ra R ⟨many + 1 + g, 0, none⟩ = ⟨g, 0, none⟩ := by
      unfold ra rb
      rw [if_pos (by show many < many + 1 + g; omega), Nat.add_sub_cancel_left]
    rw [e] at this
    exact this
  | func f => cases hx; exact ⟨_, rfl, VR.lit rfl⟩
end Go.Ev
/- Heaps over names: how they change. -/
noncomputable section
namespace Go.Ev
open Go.RowKit
set_option linter.unusedVariables false
section
variable {sz : Nat → Nat} {w0 : World} {Φ : Fx} {R : Rn} {w : World} {h : Hp}
theorem HR.row (hh : HR sz w0 Φ R w h) {i : Nat} {b : Blk} (hb : h.heap.get i = some (.row b)) : R.D i ∧ ¬ Φ (R.ρ i) ∧ ∃ cur, w.heap[R.ρ i]? = some (.cells cur b.elem (0, 0)) ∧ (∀ (j : Nat) (v : Value), b.cells[j]? = some v → ∃ v', cur[j]? = some v' ∧ SR R v v') ∧
    (b.grow = false → cur.size = b.cells.length) ∧ (b.grow = true → R.κ i ≤ maxLen ∧ cur.size = R.κ i * sz b.elem) := by
  obtain ⟨h1, h2, o, h3, cur, rfl, h4⟩ := hh.blk i _ hb
  exact ⟨h1, h2, cur, h3, h4⟩
theorem HR.map (hh : HR sz w0 Φ R w h) {i : Nat} {es : List (Value × Value × Nat)} {ck : Nat} (hb : h.heap.get i = some (.map es ck)) : R.D i ∧ ¬ Φ (R.ρ i) ∧ ∃ es', w.heap[R.ρ i]? = some (.map es' ck) ∧ ER R es es'.toList := by
  obtain ⟨h1, h2, o, h3, es', rfl, h4⟩ := hh.blk i _ hb
  exact ⟨h1, h2, es', h3, h4⟩
theorem HR.old (hh : HR sz w0 Φ R w h) {i : Nat} {c : Ob} (hc : h.heap.get i = some c) : R.ρ i < w.heap.size := by
  obtain ⟨_, _, o, h3, _⟩ := hh.blk i c hc
  exact (Array.getElem?_eq_some_iff.1 h3).1
theorem HR.lt (hh : HR sz w0 Φ R w h) {i : Nat} {c : Ob} (hc : h.heap.get i = some c) : i < R.N := hh.dom i (hh.blk i c hc).1
theorem HR.young (hh : HR sz w0 Φ R w h) : ¬ Φ w.heap.size := fun hk => by
  have h1 := hh.frm _ hk
  have h2 := hh.bel.size
  omega
theorem HR.stay (hh : HR sz w0 Φ R w h) {k : Nat} (hk : Φ k) : k < w.heap.size := Nat.lt_of_lt_of_le (hh.frm k hk) hh.bel.size
theorem HR.stayAlloc (hh : HR sz w0 Φ R w h) (o : Obj) : Stay Φ w (w.alloc o) :=
  ⟨rfl, rfl, rfl, by simp, fun k hk => Below.heap_alloc _ _ _ (hh.stay hk)⟩
theorem HR.stayGrown (hh : HR sz w0 Φ R w h) {w' : World} {row : Option Nat} (hg : w.grownBy w' row) (hr : ∀ k, row = some k → ¬ Φ k) : Stay Φ w w' :=
  ⟨hg.os, hg.tape, hg.output, hg.size, fun k hk => hg.block k (hh.stay hk) (fun e => hr k e.symm hk)⟩
/-- a name's place is written -/
theorem HR.set (hh : HR sz w0 Φ R w h) {i : Nat} {b0 b : Ob} {o : Obj} {w' : World} (hb : h.heap.get i = some b0) (hs : Stay Φ w w') (hw : ∀ k, k ≠ R.ρ i → k < w.heap.size → w'.heap[k]? = w.heap[k]?) (ho : w'.heap[R.ρ i]? = some o)
    (hor : OR sz R i b o) : HR sz w0 Φ R w' ⟨h.heap.put 40 i b, h.next, h.tab⟩ := by
  have hsm := hh.small
  have hiN := hh.lt hb
  have hget : ∀ j, (h.heap.put 40 i b).get j = if j = i then some b else h.heap.get j := fun j => Tr.get_put 40 _ _ _ j (by omega)
  have ex : ∀ {j : Nat} {c : Ob}, (h.heap.put 40 i b).get j = some c → ∃ c', h.heap.get j = some c' := fun {j c} hx => by
    rw [hget] at hx
    by_cases e : j = i
    · exact ⟨b0, e ▸ hb⟩
    · rw [if_neg e] at hx; exact ⟨c, hx⟩
  refine ⟨hh.nx, hh.small, hh.bel.trans hs, hh.frm, hh.dom, fun j c hc => ?_, fun j k c d hc hd hij => ?_, hh.tabE, fun g l hl => ?_⟩
  · have hc0 := hc
    dsimp only at hc
    rw [hget] at hc
    by_cases e : j = i
    · rw [if_pos e] at hc
      cases hc
      subst e
      exact ⟨(hh.blk _ _ hb).1, (hh.blk _ _ hb).2.1, o, ho, hor⟩
    · rw [if_neg e] at hc
      obtain ⟨h1, h2, o2, h3, h4⟩ := hh.blk j c hc
      refine ⟨h1, h2, o2, ?_, h4⟩
      rw [hw _ (fun e' => e (hh.inj j i c b0 hc hb e')) (hh.old hc)]
      exact h3
  · obtain ⟨c', hc2⟩ := ex hc
    obtain ⟨d', hd2⟩ := ex hd
    exact hh.inj j k c' d' hc2 hd2 hij
  · obtain ⟨h1, cur, e, z, h2, h3⟩ := hh.tab g l hl
    exact ⟨h1, cur, e, z, by rw [hs.block g h1]; exact h2, h3⟩
/-- a name is given -/
def Rn.addAt (R : Rn) (i g k : Nat) : Rn := ⟨fun j => if j = i then g else R.ρ j, fun j => if j = i then k else R.κ j, fun j => R.D j ∨ j = i, R.N⟩
def Rn.bump (R : Rn) : Rn := ⟨R.ρ, R.κ, R.D, R.N + 1⟩
theorem Rn.bump_ext (R : Rn) : Ext R R.bump := ⟨⟨Nat.le_succ _, fun _ h => h, fun _ _ => rfl, fun _ _ => rfl⟩, fun _ h _ => h⟩
theorem Rn.addAt_ext {R : Rn} {i : Nat} (hi : ¬ R.D i) (g k : Nat) : Ext0 R (R.addAt i g k) :=
  ⟨Nat.le_refl _, fun j hj => .inl hj, fun j hj => if_neg (fun (e : j = i) => hi (e ▸ hj)), fun j hj => if_neg (fun (e : j = i) => hi (e ▸ hj))⟩
theorem HR.bump (hh : HR sz w0 Φ R w h) (hN : h.next < 500000000) : HR sz w0 Φ R.bump w ⟨h.heap, h.next + 1, h.tab⟩ := by
  have hnx := hh.nx
  have e : Ext R R.bump := R.bump_ext
  refine ⟨by show h.next + 1 = R.N + 1; omega, by show R.N + 1 < _; omega, hh.bel, hh.frm, fun i hi => Nat.lt_succ_of_lt (hh.dom i hi), fun i b hb => ?_, hh.inj, hh.tabE, fun g l hl => ?_⟩
  · obtain ⟨h1, h2, o, h3, h4⟩ := hh.blk i b hb
    exact ⟨h1, h2, o, h3, h4.ext e h1⟩
  · obtain ⟨h1, cur, e', z, h2, h3⟩ := hh.tab g l hl
    exact ⟨h1, cur, e', z, h2, h3.mono fun _ _ h => h.ext e⟩
theorem HR.addAt (hh : HR sz w0 Φ R w h) {i g k : Nat} {b : Ob} {o : Obj} {w' : World} (hi : i < R.N) (hD : ¬ R.D i) (hs : Stay Φ w w') (hg0 : ¬ Φ g) (hg : ∀ j c, h.heap.get j = some c → R.ρ j ≠ g)
    (hk : ∀ j c, h.heap.get j = some c → w'.heap[R.ρ j]? = w.heap[R.ρ j]?) (ho : w'.heap[g]? = some o) (hor : OR sz (R.addAt i g k) i b o) : HR sz w0 Φ (R.addAt i g k) w' ⟨h.heap.put 40 i b, h.next, h.tab⟩ := by
  have hsm := hh.small
  have e := R.addAt_ext hD g k
  have hget : ∀ j, (h.heap.put 40 i b).get j = if j = i then some b else h.heap.get j := fun j => Tr.get_put 40 _ _ _ j (by omega)
  have ρi : (R.addAt i g k).ρ i = g := if_pos rfl
  have ρj : ∀ j, j ≠ i → (R.addAt i g k).ρ j = R.ρ j := fun j hj => if_neg hj
  refine ⟨hh.nx, hh.small, hh.bel.trans hs, hh.frm, fun j hj => ?_, fun j c hc => ?_, fun j l c d hc hd hij => ?_, hh.tabE, fun g l hl => ?_⟩
  · rcases hj with hj | rfl
    · exact hh.dom j hj
    · exact hi
  · dsimp only at hc
    rw [hget] at hc
    by_cases ej : j = i
    · rw [if_pos ej] at hc
      cases hc
      subst ej
      rw [ρi]
      exact ⟨.inr rfl, hg0, o, ho, hor⟩
    · rw [if_neg ej] at hc
      obtain ⟨h1, h2, o2, h3, h4⟩ := hh.blk j c hc
      rw [ρj j ej]
      exact ⟨.inl h1, h2, o2, by rw [hk j c hc]; exact h3, h4.ext e h1⟩
  · dsimp only at hc hd
    rw [hget] at hc hd
    by_cases ej : j = i
    · by_cases el : l = i
      · rw [ej, el]
      · rw [if_neg el] at hd
        rw [ej, ρi, ρj l el] at hij
        exact absurd hij.symm (hg l d hd)
    · rw [if_neg ej] at hc
      by_cases el : l = i
      · rw [el, ρi, ρj j ej] at hij
        exact absurd hij (hg j c hc)
      · rw [if_neg el] at hd
        rw [ρj j ej, ρj l el] at hij
        exact hh.inj j l c d hc hd hij
  · obtain ⟨h1, cur, e', z, h2, h3⟩ := hh.tab g l hl
    exact ⟨h1, cur, e', z, by rw [hs.block g h1]; exact h2, h3.mono fun _ _ h => h.ext e⟩
/-- a place that has its name already is taken in -/
theorem HR.putAt (hh : HR sz w0 Φ R w h) {i : Nat} {b : Ob} {o : Obj} (hD : R.D i) (hg0 : ¬ Φ (R.ρ i)) (hg : ∀ j c, h.heap.get j = some c → j ≠ i → R.ρ j ≠ R.ρ i) (ho : w.heap[R.ρ i]? = some o) (hor : OR sz R i b o) :
    HR sz w0 Φ R w ⟨h.heap.put 40 i b, h.next, h.tab⟩ := by
  have hsm := hh.small
  have hi := hh.dom i hD
  have hget : ∀ j, (h.heap.put 40 i b).get j = if j = i then some b else h.heap.get j := fun j => Tr.get_put 40 _ _ _ j (by omega)
  refine ⟨hh.nx, hh.small, hh.bel, hh.frm, hh.dom, fun j c hc => ?_, fun j l c d hc hd hij => ?_, hh.tabE, hh.tab⟩
  · dsimp only at hc
    rw [hget] at hc
    by_cases ej : j = i
    · rw [if_pos ej] at hc
      cases hc
      subst ej
      exact ⟨hD, hg0, o, ho, hor⟩
    · rw [if_neg ej] at hc
      exact hh.blk j c hc
  · dsimp only at hc hd
    rw [hget] at hc hd
    by_cases ej : j = i
    · by_cases el : l = i
      · rw [ej, el]
      · rw [if_neg el] at hd
        rw [ej] at hij
        exact absurd hij.symm (hg l d hd el)
    · rw [if_neg ej] at hc
      by_cases el : l = i
      · rw [el] at hij
        exact absurd hij (hg j c hc ej)
      · rw [if_neg el] at hd
        exact hh.inj j l c d hc hd hij
/-- one name less -/
theorem HR.del (hh : HR sz w0 Φ R w h) (k : Nat) : HR sz w0 Φ R w ⟨h.heap.del k, h.next, h.tab⟩ := by
  have get : ∀ {i : Nat} {c : Ob}, (h.heap.del k).get i = some c → h.heap.get i = some c ∧ i ≠ k := fun {i c} hx => by
    rw [Tr.get_del] at hx
    by_cases e : i = k
    · rw [if_pos e] at hx; cases hx
    · rw [if_neg e] at hx; exact ⟨hx, e⟩
  exact ⟨hh.nx, hh.small, hh.bel, hh.frm, hh.dom, fun i c hc => hh.blk i c (get hc).1, fun i j c d hc hd => hh.inj i j c d (get hc).1 (get hd).1, hh.tabE, hh.tab⟩
/-- the world moves on, and nothing named is touched -/
theorem HR.on (hh : HR sz w0 Φ R w h) {w' : World} (hs : Stay Φ w w') (hk : ∀ j c, h.heap.get j = some c → w'.heap[R.ρ j]? = w.heap[R.ρ j]?) : HR sz w0 Φ R w' h :=
  ⟨hh.nx, hh.small, hh.bel.trans hs, hh.frm, hh.dom, fun j c hc => by
    obtain ⟨h1, h2, o2, h3, h4⟩ := hh.blk j c hc
    exact ⟨h1, h2, o2, by rw [hk j c hc]; exact h3, h4⟩, hh.inj, hh.tabE, fun g l hl => by
    obtain ⟨h1, cur, e', z, h2, h3⟩ := hh.tab g l hl
    exact ⟨h1, cur, e', z, by rw [hs.block g h1]; exact h2, h3⟩⟩
theorem HR.fresh (hh : HR sz w0 Φ R w h) : ¬ R.D R.N := fun hd => Nat.lt_irrefl _ (hh.dom _ hd)
/-- a new name -/
def newA (h : Hp) (b : Ob) : Option (Nat × Hp) := bif Nat.blt h.next 500000000 then some (h.next, ⟨h.heap.put 40 h.next b, h.next + 1, h.tab⟩) else none
def Rn.add (R : Rn) (g k : Nat) : Rn := R.bump.addAt R.N g k
theorem HR.add_ext (hh : HR sz w0 Φ R w h) (g k : Nat) : Ext R (R.add g k) := ⟨R.bump_ext.toExt0.trans (Rn.addAt_ext (R := R.bump) hh.fresh g k), fun i hi hl => by
  rcases hi with hi | rfl
  · exact hi
  · exact absurd hl (Nat.lt_irrefl _)⟩
theorem HR.newO (hh : HR sz w0 Φ R w h) {w' : World} {g k : Nat} {b : Ob} {o : Obj} (hs : Stay Φ w w') (hg0 : ¬ Φ g) (hg : ∀ i c, h.heap.get i = some c → R.ρ i ≠ g) (hk : ∀ i c, h.heap.get i = some c → w'.heap[R.ρ i]? = w.heap[R.ρ i]?)
    (ho : w'.heap[g]? = some o) (hor : OR sz (R.add g k) R.N b o) {i : Nat} {h' : Hp} (hn : newA h b = some (i, h')) : i = R.N ∧ HR sz w0 Φ (R.add g k) w' h' := by
  unfold newA at hn
  cases hl : Nat.blt h.next 500000000 with
  | false => rw [hl] at hn; cases hn
  | true =>
    rw [hl] at hn
    cases hn
    have hlt : h.next < 500000000 := by simpa [Nat.blt_eq] using hl
    have hnx := hh.nx
    refine ⟨hnx, ?_⟩
    have := (hh.bump hlt).addAt (i := R.N) (g := g) (k := k) (b := b) (o := o) (w' := w') (Nat.lt_succ_self _) hh.fresh hs hg0 hg hk ho hor
    dsimp only at this
    rw [hnx] at this ⊢
    exact this
theorem HR.new (hh : HR sz w0 Φ R w h) {w' : World} {g k : Nat} {b : Blk} {cur : Array Value} (hs : Stay Φ w w') (hg0 : ¬ Φ g) (hg : ∀ i c, h.heap.get i = some c → R.ρ i ≠ g) (hc : w'.heap[g]? = some (.cells cur b.elem (0, 0)))
    (hk : ∀ i c, h.heap.get i = some c → w'.heap[R.ρ i]? = w.heap[R.ρ i]?) (hcs : ∀ (j : Nat) (v : Value), b.cells[j]? = some v → ∃ v', cur[j]? = some v' ∧ SR R v v') (h1 : b.grow = false → cur.size = b.cells.length)
    (h2 : b.grow = true → k ≤ maxLen ∧ cur.size = k * sz b.elem) {i : Nat} {h' : Hp} (hn : newA h (.row b) = some (i, h')) : i = R.N ∧ HR sz w0 Φ (R.add g k) w' h' := by
  refine hh.newO (b := .row b) hs hg0 hg hk hc (show OR sz (R.add g k) R.N (.row b) (.cells cur b.elem (0, 0)) from ⟨cur, rfl, fun j v hv => ?_, h1, fun hgr => ?_⟩) hn
  · obtain ⟨v', h3, h4⟩ := hcs j v hv
    exact ⟨v', h3, h4.ext (hh.add_ext g k)⟩
  · have e : (R.add g k).κ R.N = k := if_pos rfl
    rw [e]
    exact h2 hgr
end
end Go.Ev
/- Values and heaps held against each other, as they are written. -/
noncomputable section
namespace Go.Ev
open Go.RowKit
set_option linter.unusedVariables false
set_option linter.unusedSimpArgs false
def same : List UInt8 → List UInt8 → Bool
  | [], [] => true
  | a :: x, b :: y => Nat.beq a.toNat b.toNat && same x y
  | _, _ => false
theorem beq8 (a b : UInt8) : Nat.beq a.toNat b.toNat = (a == b) := by
  rw [Tr.beq_iff]
  by_cases h : a = b
  · subst h; simp
  · rw [decide_eq_false (fun e => h (UInt8.toNat_inj.1 e))]
    simp [h]
theorem same_is : ∀ l m : List UInt8, same l m = (l == m)
  | [], [] => rfl
  | [], _ :: _ => rfl
  | _ :: _, [] => rfl
  | a :: x, b :: y => by
    rw [same, beq8, same_is x y]
    rfl
def beqC0 : Value → Value → Bool
  | .bool a, .bool b => a == b
  | .int k a, .int l b => decide (k = l) && decide (a = b)
  | .string a, .string b => same a.data.toList b.data.toList
  | .pointer none, .pointer none => true
  | .pointer (some ⟨a, i, none⟩), .pointer (some ⟨b, j, none⟩) => Nat.beq a b && Nat.beq i j
  | .slice none n c, .slice none m d => Nat.beq n m && Nat.beq c d
  | .slice (some ⟨a, i, none⟩) n c, .slice (some ⟨b, j, none⟩) m d => Nat.beq a b && Nat.beq i j && Nat.beq n m && Nat.beq c d
  | .map none, .map none => true
  | .map (some a), .map (some b) => Nat.beq a b
  | .nilFunc, .nilFunc => true
  | .nilIface, .nilIface => true
  | _, _ => false
def beqL0 : List Value → List Value → Bool
  | [], [] => true
  | a :: l, b :: m => beqC0 a b && beqL0 l m
  | _, _ => false
def beqC (v u : Value) : Bool := match v, u with
  | .func (.func g) f c, .func (.func k) f2 c2 => Nat.beq g k && beqL0 f.toList f2.toList && beqL0 c.toList c2.toList
  | v, u => beqC0 v u
def beqL : List Value → List Value → Bool
  | [], [] => true
  | a :: l, b :: m => beqC a b && beqL l m
  | _, _ => false
def beqV1 (v u : Value) : Bool := match v, u with
  | .agg a, .agg b => beqL a.toList b.toList
  | v, u => beqC v u
def beqL1 : List Value → List Value → Bool
  | [], [] => true
  | a :: l, b :: m => beqV1 a b && beqL1 l m
  | _, _ => false
def beqV (v u : Value) : Bool := match v, u with
  | .tuple a, .tuple b => beqL1 a.toList b.toList
  | v, u => beqV1 v u
theorem beqC0_eq {v u : Value} (h : beqC0 v u = true) : v = u := by
  unfold beqC0 at h
  split at h <;> (try simp only [Bool.and_eq_true, decide_eq_true_iff, beq_iff_eq, Tr.beq_iff] at h)
  · rw [h]
  · rw [h.1, h.2]
  · rename_i a b
    rw [same_is, beq_iff_eq] at h
    congr 1
    exact ByteArray.ext (Array.ext' h)
  · rfl
  · rw [h.1, h.2]
  · rw [h.1, h.2]
  · rw [h.1.1.1, h.1.1.2, h.1.2, h.2]
  · rfl
  · rw [h]
  · rfl
  · rfl
  · cases h
theorem beqL0_eq : ∀ {l m : List Value}, beqL0 l m = true → l = m
  | [], [], _ => rfl
  | [], _ :: _, h => by cases h
  | _ :: _, [], h => by cases h
  | a :: l, b :: m, h => by
    rw [beqL0, Bool.and_eq_true] at h
    rw [beqC0_eq h.1, beqL0_eq h.2]
theorem beqC_eq {v u : Value} (h : beqC v u = true) : v = u := by
  unfold beqC at h
  split at h
  · rw [Bool.and_eq_true, Bool.and_eq_true] at h
    obtain ⟨⟨h1, h2⟩, h3⟩ := h
    have e1 := Nat.eq_of_beq_eq_true h1
    have e2 := Array.ext' (beqL0_eq h2)
    have e3 := Array.ext' (beqL0_eq h3)
    subst e1
    subst e2
    subst e3
    rfl
  · exact beqC0_eq h
theorem beqL_eq : ∀ {l m : List Value}, beqL l m = true → l = m
  | [], [], _ => rfl
  | [], _ :: _, h => by cases h
  | _ :: _, [], h => by cases h
  | a :: l, b :: m, h => by
    rw [beqL, Bool.and_eq_true] at h
    rw [beqC_eq h.1, beqL_eq h.2]
theorem beqV1_eq {v u : Value} (h : beqV1 v u = true) : v = u := by
  unfold beqV1 at h
  split at h
  · congr 1
    exact Array.ext' (beqL_eq h)
  · exact beqC_eq h
theorem beqL1_eq : ∀ {l m : List Value}, beqL1 l m = true → l = m
  | [], [], _ => rfl
  | [], _ :: _, h => by cases h
  | _ :: _, [], h => by cases h
  | a :: l, b :: m, h => by
    rw [beqL1, Bool.and_eq_true] at h
    rw [beqV1_eq h.1, beqL1_eq h.2]
theorem beqV_eq {v u : Value} (h : beqV v u = true) : v = u := by
  unfold beqV at h
  split at h
  · congr 1
    exact Array.ext' (beqL1_eq h)
  · exact beqV1_eq h

def eqE : List (Value × Value × Nat) → List (Value × Value × Nat) → Bool
  | [], [] => true
  | (a, b, n) :: l, (c, d, m) :: k => beqV a c && beqV b d && Nat.beq n m && eqE l k
  | _, _ => false
theorem eqE_eq : ∀ {l m : List (Value × Value × Nat)}, eqE l m = true → l = m
  | [], [], _ => rfl
  | [], _ :: _, h => by cases h
  | _ :: _, [], h => by cases h
  | (a, b, n) :: l, (c, d, m) :: k, h => by
    rw [eqE, Bool.and_eq_true, Bool.and_eq_true, Bool.and_eq_true] at h
    rw [beqV_eq h.1.1.1, beqV_eq h.1.1.2, Nat.eq_of_beq_eq_true h.1.2, eqE_eq h.2]
def eqNs : List Nat → List Nat → Bool
  | [], [] => true
  | a :: l, b :: k => Nat.beq a b && eqNs l k
  | _, _ => false
theorem eqNs_eq : ∀ {l m : List Nat}, eqNs l m = true → l = m
  | [], [], _ => rfl
  | [], _ :: _, h => by cases h
  | _ :: _, [], h => by cases h
  | a :: l, b :: k, h => by
    rw [eqNs, Bool.and_eq_true] at h
    rw [Nat.eq_of_beq_eq_true h.1, eqNs_eq h.2]
def eqOb : Ob → Ob → Bool
  | .row ⟨a, e, g⟩, .row ⟨b, f, k⟩ => beqL a b && Nat.beq e f && (g == k)
  | .map a n, .map b m => eqE a b && Nat.beq n m
  | .defd, .defd => true
  | .iter none s l q, .iter none t k r => Nat.beq s t && eqNs l k && Nat.beq q r
  | .iter (some a) s l q, .iter (some b) t k r => Nat.beq a b && Nat.beq s t && eqNs l k && Nat.beq q r
  | _, _ => false
theorem eqOb_eq {a b : Ob} (h : eqOb a b = true) : a = b := by
  unfold eqOb at h
  split at h <;> (try simp only [Bool.and_eq_true, beq_iff_eq] at h)
  · rw [beqL_eq h.1.1, Nat.eq_of_beq_eq_true h.1.2, h.2]
  · rw [eqE_eq h.1, Nat.eq_of_beq_eq_true h.2]
  · rfl
  · rw [Nat.eq_of_beq_eq_true h.1.1, eqNs_eq h.1.2, Nat.eq_of_beq_eq_true h.2]
  · rw [Nat.eq_of_beq_eq_true h.1.1.1, Nat.eq_of_beq_eq_true h.1.1.2, eqNs_eq h.1.2, Nat.eq_of_beq_eq_true h.2]
  · cases h
def eqTr {α : Type} (f : α → α → Bool) : Tr α → Tr α → Bool
  | .lf, .lf => true
  | .nd (some v) l r, .nd (some u) k q => f v u && eqTr f l k && eqTr f r q
  | .nd none l r, .nd none k q => eqTr f l k && eqTr f r q
  | _, _ => false
theorem eqTr_eq {α : Type} {f : α → α → Bool} (hf : ∀ {a b}, f a b = true → a = b) : ∀ {s t : Tr α}, eqTr f s t = true → s = t
  | .lf, .lf, _ => rfl
  | .nd (some v) l r, .nd (some u) k q, h => by
    rw [eqTr, Bool.and_eq_true, Bool.and_eq_true] at h
    rw [hf h.1.1, eqTr_eq hf h.1.2, eqTr_eq hf h.2]
  | .nd none l r, .nd none k q, h => by
    rw [eqTr, Bool.and_eq_true] at h
    rw [eqTr_eq hf h.1, eqTr_eq hf h.2]
  | .lf, .nd _ _ _, h => by simp [eqTr] at h
  | .nd _ _ _, .lf, h => by simp [eqTr] at h
  | .nd (some _) _ _, .nd none _ _, h => by simp [eqTr] at h
  | .nd none _ _, .nd (some _) _ _, h => by simp [eqTr] at h
/-- heaps of the same tables (held against each other as they are written) -/
def eqHp (a b : Hp) : Bool := eqTr eqOb a.heap b.heap && Nat.beq a.next b.next && eqTr beqL a.tab b.tab
theorem eqHp_eq {a b : Hp} (h : eqHp a b = true) : a = b := by
  unfold eqHp at h
  rw [Bool.and_eq_true, Bool.and_eq_true] at h
  obtain ⟨a1, a2, a3⟩ := a
  obtain ⟨b1, b2, b3⟩ := b
  have e1 := eqTr_eq eqOb_eq h.1.1
  have e2 := Nat.eq_of_beq_eq_true h.1.2
  have e3 := eqTr_eq beqL_eq h.2
  dsimp only at e1 e2 e3
  rw [e1, e2, e3]
/-- names are given up -/
def delA : List Nat → Hp → Hp
  | [], h => h
  | k :: l, h => delA l ⟨h.heap.del k, h.next, h.tab⟩
/-- where two heaps are not the same -/
def diffT : Tr Ob → Tr Ob → (Nat → Nat) → List Nat
  | .nd v l r, .nd u k q, f => (match v, u with
    | some a, some b => bif eqOb a b then [] else [f 0]
    | none, none => []
    | _, _ => [f 0]) ++ (diffT l k (fun n => f (2 * n + 1)) ++ diffT r q (fun n => f (2 * n + 2)))
  | _, _, _ => []
end Go.Ev
/- The evaluator's control, and that it is sound where its operations are. -/
noncomputable section
namespace Go.Ev
open Go.RowKit
set_option linter.unusedVariables false

inductive Ex where
  | normal | exit (id : Nat) | goto (l : Nat) | ret
def Ex.to : Ex → Exit
  | .normal => .normal
  | .exit i => .exit i
  | .goto i => .goto i
  | .ret => .ret
/-- what is called: a function, or the body of a range over a function -/
inductive Ce where
  | fn (f : Nat) | yl (i : Nat)
abbrev CallF := Ce → List Value → Hp → Option (Value × Hp)
abbrev FW (rd : Option Nat) : Fence := { Fence.wide with round := rd }

def wantd (ops : Array Oper) (fr : Fr) (o : Oper) : Option Bool :=
  match o.guard with
  | none => some true
  | some (j, want) => match ops.toList[j]? with
    | some p => match p.dst with
      | some d => match fr.get d with
        | some (.bool b) => some (b == want)
        | some (.tuple _) => some false
        | _ => none
      | none => none
    | none => none
def putd (nt : Nat) (fr : Fr) (dst : Option Nat) (v : Value) : Option Fr :=
  match dst with
  | some d => bif Nat.blt d nt then some (fr.put 40 d v) else none
  | none => some fr
/-- one by one, all of them -/
def bindL {α β : Type} (f : α → Option (List β)) : List α → Option (List β)
  | [] => some []
  | [x] => f x
  | x :: y :: l => match f x, bindL f (y :: l) with
    | some a, some b => some (a ++ b)
    | _, _ => none
theorem bindL_is {α β : Type} {f : α → Option (List β)} : ∀ {l : List α} {m : List β}, bindL f l = some m → ∀ x ∈ l, ∃ a, f x = some a ∧ ∀ y ∈ a, y ∈ m
  | [], m, h, x, hx => by cases hx
  | [z], m, h, x, hx => by
    cases List.mem_singleton.1 hx
    exact ⟨m, h, fun y hy => hy⟩
  | z :: y :: l, m, h, x, hx => by
    rw [bindL] at h
    split at h
    · rename_i a b ha hb
      cases h
      rcases List.mem_cons.1 hx with rfl | hx
      · exact ⟨a, ha, fun y hy => List.mem_append_left _ hy⟩
      · obtain ⟨c, h1, h2⟩ := bindL_is hb x hx
        exact ⟨c, h1, fun y hy => List.mem_append_right _ (h2 y hy)⟩
    · cases h
abbrev OpL := Fr → Hp → Oper → Option (List (Value × Hp))
abbrev Outs := Option (List (Ex × Fr × Hp))
def opsL (op : OpL) (nt : Nat) (all : Array Oper) : List Oper → Fr → Hp → Option (List (Fr × Hp))
  | [], fr, h => some [(fr, h)]
  | o :: r, fr, h => match wantd all fr o with
    | some true => match op fr h o with
      | some L => bindL (fun p => match putd nt fr o.dst p.1 with
        | some fr' => opsL op nt all r fr' p.2
        | none => none) L
      | none => none
    | some false => match putd nt fr o.dst undef with
      | some fr' => opsL op nt all r fr' h
      | none => none
    | none => none
/-- the places of deferred calls are shut -/
def closeM : List Nat → Hp → Option Hp
  | [], h => some h
  | i :: l, h => match h.heap.get i with
    | some .defd => closeM l ⟨h.heap.del i, h.next, h.tab⟩
    | _ => none
def setP : List Nat → List Value → Tr Value → Tr Value
  | p :: ps, v :: vs, t => setP ps vs (t.put 40 p v)
  | _, _, t => t
def jumpOf : Ex → Option Code
  | .normal => none
  | .exit i => some (.exit i)
  | .goto l => some (.goto l)
  | .ret => some .ret
def stOf : Ex → LoopState
  | .normal => .ready
  | _ => .done
def yesOf : Ex → Bool
  | .normal => true
  | _ => false
def scopeF (evn : Code → Fr → Hp → Outs) (c : Code) : Nat → Code → Fr → Hp → Outs
  | 0, _, _, _ => none
  | m + 1, x, fr, h => match evn x fr h with
    | some L => bindL (fun p => match p with
      | (.goto l, fr', h') => match findLabel c l with
        | some rest => scopeF evn c m rest fr' h'
        | none => some [(.goto l, fr', h')]
      | p => some [p]) L
    | none => none
def isBusy : LoopState → Bool
  | .busy => true
  | _ => false
def eqVH (x y : Value × Hp) : Bool := beqV x.1 y.1 && eqHp x.2 y.2
theorem eqVH_eq {x y : Value × Hp} (h : eqVH x y = true) : x = y := by
  unfold eqVH at h
  rw [Bool.and_eq_true] at h
  exact Prod.ext (beqV_eq h.1) (eqHp_eq h.2)
def same2 (x : Value × Hp) (l : List (Value × Hp)) (ks : List Nat) : Option (Value × Hp) := bif l.all (fun z => eqVH (x.1, delA ks x.2) (z.1, delA ks z.2)) then some (x.1, delA ks x.2) else none
/-- they come to the same, but for names that are given up -/
def same1 : List (Value × Hp) → Option (Value × Hp)
  | [] => none
  | [x] => some x
  | x :: y :: l => same2 x (y :: l) (diffT x.2.heap y.2.heap id)
theorem same1_is {x : Value × Hp} : ∀ {l : List (Value × Hp)}, same1 l = some x → ∀ y ∈ l, ∃ ks, (y.1, delA ks y.2) = x
  | [], h, y, hy => by cases hy
  | [z], h, y, hy => by
    cases h
    cases List.mem_singleton.1 hy
    exact ⟨[], rfl⟩
  | z :: u :: l, h, y, hy => by
    unfold same1 at h
    dsimp only at h
    generalize diffT z.2.heap u.2.heap id = ks at h
    refine ⟨ks, ?_⟩
    unfold same2 at h
    cases hb : (u :: l).all (fun q => eqVH (z.1, delA ks z.2) (q.1, delA ks q.2)) with
    | false => rw [hb] at h; cases h
    | true =>
      rw [hb] at h
      cases h
      rcases List.mem_cons.1 hy with rfl | hy
      · rfl
      · exact (eqVH_eq (List.all_eq_true.1 hb y hy)).symm
def seqK (k : Fr → Hp → Outs) (p : Ex × Fr × Hp) : Outs := match p with
  | (.normal, fr', h') => k fr' h'
  | p => some [p]
def blockK (id : Nat) (p : Ex × Fr × Hp) : Ex × Fr × Hp := match p with
  | (.exit i, q) => bif Nat.beq i id then (.normal, q) else (.exit i, q)
  | p => p
def backL (res : Func → Fr → Hp → Option Value) (fn : Func) (p : Ex × Fr × Hp) : Option (List (Value × Hp)) := match p with
  | (.exit _, _) => none
  | (.goto _, _) => none
  | (_, fr', h') => match closeM (fr'.ms.getD []) h' with
    | some h1 => match res fn fr' h1 with
      | some v => some [(v, h1)]
      | none => none
    | none => none
section
variable (fns : Tr Func) (op : CallF → OpL) (dr : CallF → Nat → Array Oper → Fr → Hp → Option (Fr × Hp)) (res : Func → Fr → Hp → Option Value)
def callB (evn : Nat → Code → Fr → Hp → Outs) : CallF := fun c args h => match c with
  | .fn f => match fns.get f with
    | some fn => match fn.body with
      | some b => bif Nat.ble args.length fn.ntmps && Nat.blt fn.ntmps 549755813888 then
          match evn fn.ntmps b ⟨Tr.ofL args 0 .lf, some []⟩ h with
          | some L => match bindL (backL res fn) L with
            | some M => same1 M
            | none => none
          | none => none
        else none
      | none => none
    | none => none
  | .yl i => match h.heap.get i with
    | some (.loop .ready pend t nt ps as bd) => bif Nat.beq args.length ps.size && ps.toList.all (Nat.blt · nt) then
        match evn nt as ⟨setP ps.toList args t, none⟩ h with
        | some [(.normal, fr1, h1)] => match h1.heap.get i with
          | some (.loop .ready pend1 t1 nt1 ps1 as1 bd1) => match evn nt bd fr1 ⟨h1.heap.put 40 i (.loop .busy pend1 t1 nt1 ps1 as1 bd1), h1.next, h1.tab⟩ with
            | some [(e, fr2, h2)] => match h2.heap.get i with
              | some (.loop st2 pend2 t2 nt2 ps2 as2 bd2) => some (.bool (yesOf e), ⟨h2.heap.put 40 i (.loop (stOf e) (jumpOf e) t2 nt2 ps2 as2 bd2), h2.next, h2.tab⟩)
              | _ => none
            | _ => none
          | _ => none
        | _ => none
      else none
    | _ => none
def ev : Nat → Nat → Code → Fr → Hp → Outs
  | 0, _, _, _, _ => none
  | n + 1, nt, c, fr, h => match c with
    | .skip => some [(.normal, fr, h)]
    | .label _ => some [(.normal, fr, h)]
    | .exit i => some [(.exit i, fr, h)]
    | .goto i => some [(.goto i, fr, h)]
    | .ret => some [(.ret, fr, h)]
    | .region _ ops draw => bif draw then
        match dr (callB fns res (ev n)) nt ops fr h with
        | some (fr', h') => some [(.normal, fr', h')]
        | none => none
      else
      match opsL (op (callB fns res (ev n))) nt ops ops.toList fr h with
      | some L => some (L.map fun p => (.normal, p.1, p.2))
      | none => none
    | .seq a b => match ev n nt a fr h with
      | some L => bindL (seqK (ev n nt b)) L
      | none => none
    | .cond x a b => match ev1 fr x with
      | some (.bool t) => bif t then ev n nt a fr h else ev n nt b fr h
      | _ => none
    | .block id b => match ev n nt b fr h with
      | some L => some (L.map (blockK id))
      | none => none
    | .loop b => match ev n nt b fr h with
      | some L => bindL (seqK (ev n nt (.loop b))) L
      | none => none
    | .scope c => bif fr.ms.isSome then scopeF (ev n nt) c n c fr h else none
    | .rangeFunc g ps as bd => match fr.ms, ev1 fr g with
      | some ms, some (.func (.func gf) f cs) => bif f.isEmpty && Nat.blt h.next 400000000 then
          match callB fns res (ev n) (.fn gf) (.func (.yield (h.next + 1)) #[] #[] :: cs.toList) ⟨(h.heap.put 40 h.next .defd).put 40 (h.next + 1) (.loop .ready none fr.t nt ps as bd), h.next + 2, h.tab⟩ with
          | some (_, h2) => match h2.heap.get (h.next + 1) with
            | some (.loop st pend _ _ _ _ _) => bif isBusy st then none else
              match pend with
              | none => some [(.normal, ⟨fr.t, some (h.next :: ms)⟩, ⟨h2.heap.del (h.next + 1), h2.next, h2.tab⟩)]
              | some c => ev n nt c ⟨fr.t, some (h.next :: ms)⟩ ⟨h2.heap.del (h.next + 1), h2.next, h2.tab⟩
            | _ => none
          | none => none
        else none
      | _, _ => none
    | _ => none
end

theorem VR.bool {R : Rn} {b : Bool} {v : Value} (h : VR R (.bool b) v) : v = .bool b := by
  rcases h with (h | ⟨_, _, h, _⟩) | ⟨_, _, h, _⟩
  · cases h; rfl
  · cases h
  · cases h
theorem VR.tuple {R : Rn} {x : Array Value} {v : Value} (h : VR R (.tuple x) v) : ∃ y, v = .tuple y := by
  rcases h with (h | ⟨_, _, h, _⟩) | ⟨_, y, h, h2, _⟩
  · cases h; exact ⟨x, rfl⟩
  · cases h
  · exact ⟨y, h2⟩
theorem wantd_is {R : Rn} {rd : Option Nat} {nt : Nat} {fr : Fr} {a : Act} (h : FR R rd nt fr a) {ops : Array Oper} {o : Oper} {b : Bool} (hw : wantd ops fr o = some b) :
    Region.wanted o (yielded ops a.tmps) = b := by
  unfold wantd at hw
  unfold Region.wanted
  cases hg : o.guard with
  | none => rw [hg] at hw; cases hw; rfl
  | some p =>
    obtain ⟨j, want⟩ := p
    rw [hg] at hw
    dsimp only at hw ⊢
    rw [Array.getElem?_toList] at hw
    unfold yielded
    cases ho : ops[j]? with
    | none => rw [ho] at hw; cases hw
    | some p =>
      rw [ho] at hw
      dsimp only at hw
      cases hd : p.dst with
      | none => rw [hd] at hw; cases hw
      | some d =>
        rw [hd] at hw
        dsimp only at hw
        cases hf : fr.get d with
        | none => rw [hf] at hw; cases hw
        | some v =>
          rw [hf] at hw
          obtain ⟨v', h1, h2⟩ := h.2.2.2 d v hf
          simp only [Option.bind_some, hd, h1]
          cases v <;> first | (cases hw; done) | skip
          case bool c =>
            cases hw
            rw [h2.bool]
            cases c <;> cases want <;> rfl
          case tuple x =>
            cases hw
            obtain ⟨y, rfl⟩ := h2.tuple
            rfl
theorem putd_is {R : Rn} {rd : Option Nat} {nt : Nat} {fr fr' : Fr} {a : Act} (h : FR R rd nt fr a) {d : Option Nat} {v v' : Value} (hv : VR R v v') (hp : putd nt fr d v = some fr') : FR R rd nt fr' (a.put d v') := by
  unfold putd at hp
  cases d with
  | none => cases hp; exact h
  | some d =>
    dsimp only at hp
    cases hb : Nat.blt d nt with
    | false => rw [hb] at hp; cases hp
    | true =>
      rw [hb] at hp
      cases hp
      exact h.put (by simpa [Nat.blt_eq] using hb) hv

section
variable (P : Program) (sz : Nat → Nat)
/-- an operation's word holds -/
def OpS (op : Fr → Hp → Oper → Option (Value × Hp)) : Prop :=
  ∀ w0 Φ fr h o v h', op fr h o = some (v, h') → ∀ (R : Rn) (w : World) (rd : Option Nat) (nt : Nat) (a : Act) (K : Act → World → Prop) (Q : Exit → Act → World → Prop), HR sz w0 Φ R w h → FR R rd nt fr a →
    (∀ R' w' v', Ext R R' → HR sz w0 Φ R' w' h' → VR R' v v' → K (a.put o.dst v') w') → o.wpIn (FW rd) 0 P a w K Q
def OpSL (op : OpL) : Prop :=
  ∀ w0 Φ fr h o L, op fr h o = some L → ∀ (R : Rn) (w : World) (rd : Option Nat) (nt : Nat) (a : Act) (K : Act → World → Prop) (Q : Exit → Act → World → Prop), HR sz w0 Φ R w h → FR R rd nt fr a →
    (∀ p ∈ L, ∀ R' w' v', Ext R R' → HR sz w0 Φ R' w' p.2 → VR R' p.1 v' → K (a.put o.dst v') w') → o.wpIn (FW rd) 0 P a w K Q
/-- a function of our own -/
def Callable (P : Program) (f : Nat) : Prop := ∃ fn, P.funcs[f]? = some fn ∧ (fn.name == "runtime.NumGoroutine") = false ∧ fn.body.isNone = false
def FnOK (P : Program) (fns : Tr Func) : Prop := ∀ f fn, fns.get f = some fn → P.funcs[f]? = some fn ∧ (fn.name == "runtime.NumGoroutine") = false
def CeS (P : Program) (R : Rn) (w : World) (args' : Array Value) (W : Ending → World → Prop) : Ce → Prop
  | .fn f => Callable P f ∧ Calls P f args' w W
  | .yl i => R.D i ∧ YieldAt Fence.wide 0 P (R.ρ i) args' w W
def CallS (call : CallF) : Prop :=
  ∀ w0 Φ c args h v h', call c args h = some (v, h') → ∀ (R : Rn) (w : World) (args' : Array Value) (W : Ending → World → Prop), HR sz w0 Φ R w h → A2 (VR R) args args'.toList →
    (∀ R' w' v', Ext R R' → HR sz w0 Φ R' w' h' → VR R' v v' → W (.returned v') w') → CeS P R w args' W c
def DrS (dr : Nat → Array Oper → Fr → Hp → Option (Fr × Hp)) : Prop :=
  ∀ w0 Φ nt ops fr h fr' h', dr nt ops fr h = some (fr', h') → ∀ (id : Nat) (R : Rn) (rd : Option Nat) (w : World) (a : Act) (Q : Exit → Act → World → Prop), HR sz w0 Φ R w h → FR R rd nt fr a →
    (∀ R' w' a', Ext R R' → HR sz w0 Φ R' w' h' → FR R' rd nt fr' a' → Q .normal a' w') → (Code.region id ops true).wpIn (FW rd) 0 P Q a w
def ResS (res : Func → Fr → Hp → Option Value) : Prop :=
  ∀ w0 Φ fn fr h v, res fn fr h = some v → ∀ (R : Rn) (w : World) (rd : Option Nat) (nt : Nat) (a : Act), HR sz w0 Φ R w h → FR R rd nt fr a → ∃ v', (results fn a.tmps).run P w = .ok v' w ∧ VR R v v'
def EvS (evn : Nat → Code → Fr → Hp → Outs) : Prop :=
  ∀ w0 Φ nt c fr h L, evn nt c fr h = some L → ∀ (R : Rn) (rd : Option Nat) (w : World) (a : Act) (Q : Exit → Act → World → Prop), HR sz w0 Φ R w h → FR R rd nt fr a →
    (∀ p ∈ L, ∀ R' w' a', Ext R R' → HR sz w0 Φ R' w' p.2.2 → FR R' rd nt p.2.1 a' → Q p.1.to a' w') → c.wpIn (FW rd) 0 P Q a w
end

section
variable {P : Program} {sz : Nat → Nat}
theorem opsL_is {op : OpL} (hop : OpSL P sz op) {w0 : World} {Φ : Fx} {rd : Option Nat} {nt : Nat} {ops : Array Oper} {Q : Exit → Act → World → Prop} :
    ∀ (l : List Oper) (k : Nat), (∀ i, l[i]? = ops[k + i]?) → ∀ (fr : Fr) (h : Hp) (R : Rn) (w : World) (a : Act) (L : List (Fr × Hp)), opsL op nt ops l fr h = some L → HR sz w0 Φ R w h → FR R rd nt fr a →
      (∀ p ∈ L, ∀ R' w' a', Ext R R' → HR sz w0 Φ R' w' p.2 → FR R' rd nt p.1 a' → Q .normal a' w') → wpOpsIn (FW rd) 0 P ops Q (List.range' k l.length) a w
  | [], k, _, fr, h, R, w, a, L, he, hh, hf, hq => by
    cases he
    exact hq _ (List.mem_singleton_self _) R w a (.refl R) hh hf
  | o :: r, k, hl, fr, h, R, w, a, L, he, hh, hf, hq => by
    have h0 : ops[k]? = some o := (hl 0).symm
    have hr : ∀ i, r[i]? = ops[k + 1 + i]? := fun i => by
      have := hl (i + 1)
      rw [show k + 1 + i = k + (i + 1) by omega, ← this]
      rfl
    rw [show List.range' k (o :: r).length = k :: List.range' (k + 1) r.length from rfl]
    simp only [wpOpsIn, h0]
    unfold opsL at he
    cases hw : wantd ops fr o with
    | none => rw [hw] at he; cases he
    | some b =>
      rw [hw] at he
      rw [wantd_is hf hw]
      cases b with
      | true =>
        dsimp only at he
        rw [if_pos rfl]
        cases ho : op fr h o with
        | none => rw [ho] at he; cases he
        | some M =>
          rw [ho] at he
          dsimp only at he
          refine hop w0 Φ fr h o M ho R w rd nt a _ Q hh hf fun p hp R1 w1 v1 e1 hh1 hv1 => ?_
          obtain ⟨N, hN, hsub⟩ := bindL_is he p hp
          cases hpd : putd nt fr o.dst p.1 with
          | none => rw [hpd] at hN; cases hN
          | some fr1 =>
            rw [hpd] at hN
            exact opsL_is hop r (k + 1) hr fr1 p.2 R1 w1 _ N hN hh1 (putd_is (hf.ext e1) hv1 hpd) fun q hq2 R2 w2 a2 e2 hh2 hf2 => hq q (hsub q hq2) R2 w2 a2 (e1.trans e2) hh2 hf2
      | false =>
        dsimp only at he
        rw [if_neg Bool.false_ne_true]
        cases hp : putd nt fr o.dst undef with
        | none => rw [hp] at he; cases he
        | some fr1 =>
          rw [hp] at he
          dsimp only at he
          exact ⟨fun _ _ => trivial, opsL_is hop r (k + 1) hr fr1 h R w _ L he hh (putd_is hf VR.undef hp) hq⟩

variable {fns : Tr Func} {op : CallF → Fr → Hp → Oper → Option (Value × Hp)} {dr : CallF → Nat → Array Oper → Fr → Hp → Option (Fr × Hp)} {res : Func → Fr → Hp → Option Value}
theorem FR.args {R : Rn} {nt : Nat} {args : List Value} {args' : Array Value} (h : A2 (VR R) args args'.toList) (hl : args.length ≤ nt) (hn : nt < 549755813888) :
    FR R none nt ⟨Tr.ofL args 0 .lf, some []⟩ { tmps := args' ++ Array.replicate (nt - args'.size) undef, defers := [] } := by
  have hs : args.length = args'.size := by have := h.1; simpa using this
  refine ⟨by simp; omega, hn, ⟨rfl, fun i hi => (by cases hi), fun _ => rfl⟩, fun t v ht => ?_⟩
  change (Tr.ofL args 0 .lf).get t = some v at ht
  rw [Tr.get_ofL args 0 .lf t (by omega)] at ht
  by_cases c : 0 ≤ t ∧ t < 0 + args.length
  · rw [if_pos c] at ht
    obtain ⟨v', h1, h2⟩ := h.2 t v (by simpa using ht)
    refine ⟨v', ?_, h2⟩
    rw [Array.getElem?_toList] at h1
    rw [Array.getElem?_append_left (by omega)]
    exact h1
  · rw [if_neg c] at ht
    rw [Tr.get_lf] at ht; cases ht
theorem setP_is {R : Rn} {nt : Nat} : ∀ (ps : List Nat) (args args' : List Value) (t : Tr Value) (tmps : Array Value), (∀ p ∈ ps, p < nt) → nt ≤ tmps.size → nt < 549755813888 → args.length = ps.length → A2 (VR R) args args' → TR R t tmps →
    TR R (setP ps args t) ((ps.zip args').foldl (fun t (p, v) => t.setIfInBounds p v) tmps) ∧ nt ≤ ((ps.zip args').foldl (fun t (p, v) => t.setIfInBounds p v) tmps).size
  | [], args, args', t, tmps, _, hn, _, _, _, ht => ⟨ht, hn⟩
  | p :: ps, [], args', t, tmps, _, _, _, hl, _, _ => by cases hl
  | p :: ps, v :: args, [], t, tmps, _, _, _, _, ha, _ => by have := ha.1; cases this
  | p :: ps, v :: args, v' :: args', t, tmps, hp, hn, hs, hl, ha, ht => by
    have hv : VR R v v' := by obtain ⟨x, h1, h2⟩ := ha.2 0 v rfl; cases h1; exact h2
    have hpn := hp p (List.mem_cons_self ..)
    refine setP_is ps args args' _ _ (fun q hq => hp q (List.mem_cons_of_mem _ hq)) (by simpa using hn) hs (by simpa using hl) ⟨by simpa using ha.1, fun i x hx => ha.2 (i + 1) x hx⟩ fun k x hx => ?_
    rw [Tr.get_put 40 t p v k (by omega)] at hx
    by_cases e : k = p
    · subst e
      rw [if_pos rfl] at hx
      cases hx
      exact ⟨v', Array.getElem?_setIfInBounds_self_of_lt (by omega), hv⟩
    · rw [if_neg e] at hx
      obtain ⟨x', h1, h2⟩ := ht k x hx
      exact ⟨x', by rw [Array.getElem?_setIfInBounds_ne (fun e' => e e'.symm)]; exact h1, h2⟩
theorem leave_is {fn : Func} {tmps : Array Value} {w0 : World} {Φ : Fx} {R : Rn} {W : Ending → World → Prop} : ∀ (ms : List Nat) (h h1 : Hp) (w : World), closeM ms h = some h1 → HR sz w0 Φ R w h →
    (∀ w', HR sz w0 Φ R w' h1 → ∃ v, (results fn tmps).run P w' = .ok v w' ∧ W (.returned v) w') → LeavesInM (FW none) 0 P fn tmps W (ms.map fun i => { target := .collected (R.ρ i), args := #[] }) .returning w
  | [], h, h1, w, hc, hh, hk => by
    cases hc
    exact hk w hh
  | i :: ms, h, h1, w, hc, hh, hk => by
    unfold closeM at hc
    split at hc
    · rename_i hb
      obtain ⟨h2, h3, o, h4, h5⟩ := hh.blk i _ hb
      cases h5
      refine ⟨by simp, .inl ⟨R.ρ i, _, rfl, run_takeDeferred h4, leave_is ms _ h1 _ hc ?_ hk⟩⟩
      refine (hh.del i).on ⟨rfl, rfl, rfl, by simp, fun k hk => World.putObj_heap_other (fun e => h3 (e ▸ hk))⟩ fun j c hc => ?_
      dsimp only at hc
      rw [Tr.get_del] at hc
      by_cases e : j = i
      · rw [if_pos e] at hc; cases hc
      · rw [if_neg e] at hc
        exact World.putObj_heap_other (fun e' => e (hh.inj j i c _ hc hb e'))
    · cases hc
theorem HR.putObj {w0 : World} {Φ : Fx} {R : Rn} {w : World} {h : Hp} (hh : HR sz w0 Φ R w h) {i : Nat} {b0 b : Ob} {o : Obj} (hb : h.heap.get i = some b0) (hor : OR sz R i b o) : HR sz w0 Φ R (w.putObj (R.ρ i) o) ⟨h.heap.put 40 i b, h.next, h.tab⟩ := by
  obtain ⟨h2, h3, o', h4, h5⟩ := hh.blk i _ hb
  exact hh.set hb ⟨rfl, rfl, rfl, by simp, fun k hk => World.putObj_heap_other (fun e => h3 (e ▸ hk))⟩ (fun k hk _ => World.putObj_heap_other hk) (World.putObj_heap_same (hh.old hb)) hor
theorem HR.delA {w0 : World} {Φ : Fx} {R : Rn} {w : World} : ∀ (ks : List Nat) {h : Hp}, HR sz w0 Φ R w h → HR sz w0 Φ R w (delA ks h)
  | [], h, hh => hh
  | k :: l, h, hh => HR.delA l (hh.del k)
theorem EvS.one {evn : Nat → Code → Fr → Hp → Outs} (hev : EvS P sz evn) : ∀ w0 Φ nt c fr h e fr' h', evn nt c fr h = some [(e, fr', h')] → ∀ (R : Rn) (rd : Option Nat) (w : World) (a : Act) (Q : Exit → Act → World → Prop), HR sz w0 Φ R w h → FR R rd nt fr a →
    (∀ R' w' a', Ext R R' → HR sz w0 Φ R' w' h' → FR R' rd nt fr' a' → Q e.to a' w') → c.wpIn (FW rd) 0 P Q a w :=
  fun w0 Φ nt c fr h e fr' h' he R rd w a Q hh hf hq => hev w0 Φ nt c fr h _ he R rd w a Q hh hf fun p hp => by cases List.mem_singleton.1 hp; exact hq
theorem callB_is (hfn : FnOK P fns) (hres : ResS P sz res) {evn : Nat → Code → Fr → Hp → Outs} (hev : EvS P sz evn) :
    CallS P sz (callB fns res evn) := by
  intro w0 Φ c args h v h' he R w args' W hh ha hW
  cases c with
  | fn f =>
    unfold callB at he
    dsimp only at he
    cases hf : fns.get f with
    | none => rw [hf] at he; cases he
    | some fn =>
      rw [hf] at he
      dsimp only at he
      cases hb : fn.body with
      | none => rw [hb] at he; cases he
      | some b =>
        rw [hb] at he
        dsimp only at he
        cases hc : Nat.ble args.length fn.ntmps && Nat.blt fn.ntmps 549755813888 with
        | false => rw [hc] at he; cases he
        | true =>
          rw [hc] at he
          dsimp only [cond_true] at he
          rw [Bool.and_eq_true, Nat.ble_eq, Nat.blt_eq] at hc
          refine ⟨⟨fn, (hfn f fn hf).1, (hfn f fn hf).2, by rw [hb]; rfl⟩, callsIn_wide.1 (callsIn_of_wp_marks (F := Fence.wide) (n := 0) (hfn f fn hf).1 hb trivial ?_)⟩
          cases hv : evn fn.ntmps b ⟨Tr.ofL args 0 .lf, some []⟩ h with
          | none => rw [hv] at he; cases he
          | some L =>
            rw [hv] at he
            dsimp only at he
            cases hM : bindL (backL res fn) L with
            | none => rw [hM] at he; cases he
            | some M =>
              rw [hM] at he
              dsimp only at he
              refine hev w0 Φ _ _ _ _ _ hv R none w _ _ hh (FR.args ha hc.1 hc.2) fun p hp R1 w1 a1 e1 hh1 hf1 => ?_
              obtain ⟨N, hN, hsub⟩ := bindL_is hM p hp
              obtain ⟨e, fr1, h1⟩ := p
              have fin : (match closeM (fr1.ms.getD []) h1 with | some h1 => (match res fn fr1 h1 with | some v => some [(v, h1)] | none => none) | none => none) = some N → LeavesInM (FW none) 0 P fn a1.tmps W a1.defers .returning w1 := fun h3 => by
                cases hm : closeM (fr1.ms.getD []) h1 with
                | none => rw [hm] at h3; cases h3
                | some h4 =>
                  rw [hm] at h3
                  dsimp only at h3
                  cases hr : res fn fr1 h4 with
                  | none => rw [hr] at h3; cases h3
                  | some v1 =>
                    rw [hr] at h3
                    cases h3
                    obtain ⟨ks, hx⟩ := same1_is he _ (hsub _ (List.mem_singleton_self _))
                    cases hx
                    rw [hf1.2.2.1.1]
                    refine leave_is (fr1.ms.getD []) h1 _ w1 hm hh1 fun w' hh2 => ?_
                    obtain ⟨v', h5, h6⟩ := hres w0 Φ fn fr1 _ _ hr R1 w' none _ a1 hh2 hf1
                    exact ⟨v', h5, hW R1 w' v' e1 (HR.delA ks hh2) h6⟩
              cases e with
              | exit i => cases hN
              | goto i => cases hN
              | normal => exact fin hN
              | ret => exact fin hN
  | yl i =>
    unfold callB at he
    dsimp only at he
    split at he
    · rename_i pend t nt ps as bd hb
      cases hc : Nat.beq args.length ps.size && ps.toList.all (Nat.blt · nt) with
      | false => rw [hc] at he; cases he
      | true =>
        rw [hc] at he
        dsimp only [cond_true] at he
        rw [Bool.and_eq_true] at hc
        have hlen := Nat.eq_of_beq_eq_true hc.1
        have hps : ∀ p ∈ ps.toList, p < nt := fun p hp => by have := List.all_eq_true.1 hc.2 p hp; simpa [Nat.blt_eq] using this
        obtain ⟨hD, hΦ, o, ho, l, rfl, hl1, hl2, rfl, rfl, rfl, hl3, hl4, hl5⟩ := hh.blk i _ hb
        refine ⟨hD, l.fn, _, l.assign, l.body, run_yield ho (by have := ha.1; simp at this; omega), roundIn_of_wpIn (F := Fence.wide) (n := 0) trivial ?_⟩
        split at he
        · rename_i fr1 h1 hev1
          have hset := setP_is (R := R) l.params.toList args args'.toList t l.tmps hps hl3 hl4 (by simpa using hlen) ha hl5
          have hfold : (l.params.zip args').foldl (fun tmps (x : Tmp × Value) => match x with | (t, a) => tmps.setIfInBounds t a) l.tmps = (l.params.toList.zip args'.toList).foldl (fun t (x : Nat × Value) => match x with | (p, v) => t.setIfInBounds p v) l.tmps := by
            rw [← Array.foldl_toList, Array.toList_zip]
          rw [hfold]
          refine hev.one w0 Φ _ _ _ _ _ _ _ hev1 R (some (R.ρ i)) w _ _ hh ⟨hset.2, hl4, ⟨rfl, fun i hi => (by cases hi), fun hx => (by cases hx)⟩, hset.1⟩ fun R1 w1 a1 e1 hh1 hf1 => ?_
          split at he
          · rename_i pend1 t1 nt1 ps1 as1 bd1 hb1
            obtain ⟨hD1, hΦ1, o1, ho1, k1, rfl, q1, q2, q3, q4, q5, q6, q7, q8⟩ := hh1.blk i _ hb1
            have eρ : R1.ρ i = R.ρ i := e1.ρ i hD
            rw [← eρ]
            refine ⟨_, run_beginRound ho1 q1, ?_⟩
            have hh2 := hh1.putObj (b := .loop .busy pend1 t1 nt1 ps1 as1 bd1) (o := .loop { k1 with state := .busy }) hb1 ⟨_, rfl, rfl, q2, q3, q4, q5, q6, q7, q8⟩
            split at he
            · rename_i e fr2 h2 hev2
              rw [← eρ] at hf1
              refine hev.one w0 Φ _ _ _ _ _ _ _ hev2 R1 (some (R1.ρ i)) _ _ _ hh2 hf1 fun R2 w2 a2 e2 hh3 hf2 => ?_
              split at he
              · rename_i st2 pend2 t2 nt2 ps2 as2 bd2 hb2
                cases he
                obtain ⟨hD2, hΦ2, o2, ho2, k2, rfl, r1, r2, r3, r4, r5, r6, r7, r8⟩ := hh3.blk i _ hb2
                have eρ2 : R2.ρ i = R1.ρ i := e2.ρ i hD1
                rw [← eρ2]
                have fin : ∀ (j : Option Code) (st : LoopState) (y : Bool), j = jumpOf e → st = stOf e → y = yesOf e → j.isNone = y → (if j.isNone then LoopState.ready else .done) = st → ∃ v w', (Instr.endRound (R2.ρ i) j).run P w2 = .ok v w' ∧ W (.returned v) w' := fun j st y hj hst hy h1 h2 => by
                  refine ⟨_, _, run_endRound j ho2, ?_⟩
                  refine hW R2 _ _ (e1.trans e2) (hh3.putObj (b := .loop (stOf e) (jumpOf e) t2 nt2 ps2 as2 bd2) (o := .loop { k2 with state := if j.isNone then .ready else .done, pending := j }) hb2 ⟨_, rfl, h2.trans hst, hj, r3, r4, r5, r6, r7, r8⟩) ?_
                  rw [h1, hy]
                  exact .lit rfl
                cases e with
                | normal => exact fin none .ready true rfl rfl rfl rfl rfl
                | exit id => exact fin (some (.exit id)) .done false rfl rfl rfl rfl rfl
                | goto id => exact fin (some (.goto id)) .done false rfl rfl rfl rfl rfl
                | ret => exact fin (some .ret) .done false rfl rfl rfl rfl rfl
              · cases he
            · cases he
          · cases he
        · cases he
    · cases he
end
/-- what is jumped to in a scope -/
def jmpP (P : Program) (c : Code) (Q : Exit → Act → World → Prop) : Nat → Code → Act → World → Prop
  | 0, _, _, _ => False
  | m + 1, x, a, w => x.wp P (fun e a w => match e with
      | .goto l => match findLabel c l with
        | some rest => jmpP P c Q m rest a w
        | none => Q (.goto l) a w
      | e => Q e a w) a w
theorem wp_scope_jmp {P : Program} {c : Code} {Q : Exit → Act → World → Prop} {m : Nat} {a : Act} {w : World} (h : jmpP P c Q m c a w) : (Code.scope c).wp P Q a w := by
  intro b k cs
  have key : ∀ m x a w, jmpP P c Q m x a w → ∃ e a' w', Q e a' w' ∧ Arrives P (lone (b.at a (.code x :: .inScope c :: k)) cs w) b k cs e a' w' := by
    intro m
    induction m with
    | zero => intro x a w h; exact h.elim
    | succ m ih =>
      intro x a w h
      obtain ⟨e, a₁, w₁, hq, harr⟩ := h b (.inScope c :: k) cs
      cases e with
      | normal => exact ⟨.normal, a₁, w₁, hq, Steps.trans harr (.one step_inScope)⟩
      | exit id => exact ⟨.exit id, a₁, w₁, hq, fun k' hk => harr k' (by simp [exitTo, hk])⟩
      | goto l =>
        dsimp only at hq
        cases hf : findLabel c l with
        | some rest =>
          rw [hf] at hq
          obtain ⟨e₂, a₂, w₂, hq₂, harr₂⟩ := ih rest a₁ w₁ hq
          exact ⟨e₂, a₂, w₂, hq₂, .of_steps (harr _ (by simp [gotoIn, hf])) harr₂⟩
        | none =>
          rw [hf] at hq
          exact ⟨.goto l, a₁, w₁, hq, fun k' hk => harr k' (by simp [gotoIn, hf, hk])⟩
      | ret => exact ⟨_, a₁, w₁, hq, harr⟩
      | panic ch => exact ⟨_, a₁, w₁, hq, harr⟩
      | outgrown => exact ⟨_, a₁, w₁, hq, harr⟩
  obtain ⟨e, a', w', hq, harr⟩ := key m c a w h
  exact ⟨e, a', w', hq, .of_steps (.one step_scope) harr⟩
theorem scopeF_is {P : Program} {sz : Nat → Nat} {evn : Nat → Code → Fr → Hp → Outs} (hev : EvS P sz evn) {nt : Nat} {c : Code} {w0 : World} {Φ : Fx} {Q : Exit → Act → World → Prop} :
    ∀ (m : Nat) (x : Code) (fr : Fr) (h : Hp) (L : List (Ex × Fr × Hp)), scopeF (evn nt) c m x fr h = some L → ∀ (R : Rn) (w : World) (a : Act), HR sz w0 Φ R w h → FR R none nt fr a →
      (∀ p ∈ L, ∀ R' w' a', Ext R R' → HR sz w0 Φ R' w' p.2.2 → FR R' none nt p.2.1 a' → Q p.1.to a' w') → jmpP P c Q m x a w
  | 0, x, fr, h, L, he, _, _, _, _, _, _ => by cases he
  | m + 1, x, fr, h, L, he, R, w, a, hh, hf, hq => by
    rw [scopeF] at he
    unfold jmpP
    cases hx : evn nt x fr h with
    | none => rw [hx] at he; cases he
    | some M =>
      rw [hx] at he
      dsimp only at he
      refine wpIn_wide.1 (hev w0 Φ nt x fr h M hx R none w a _ hh hf fun p hp R1 w1 a1 x1 hh1 hf1 => ?_)
      obtain ⟨N, hN, hsub⟩ := bindL_is he p hp
      obtain ⟨e1, fr1, h1⟩ := p
      cases e1 with
      | normal => cases hN; exact hq _ (hsub _ (List.mem_singleton_self _)) R1 w1 a1 x1 hh1 hf1
      | exit i => cases hN; exact hq _ (hsub _ (List.mem_singleton_self _)) R1 w1 a1 x1 hh1 hf1
      | ret => cases hN; exact hq _ (hsub _ (List.mem_singleton_self _)) R1 w1 a1 x1 hh1 hf1
      | goto l =>
        dsimp only [Ex.to] at hN ⊢
        cases hl : findLabel c l with
        | none => rw [hl] at hN; cases hN; exact hq _ (hsub _ (List.mem_singleton_self _)) R1 w1 a1 x1 hh1 hf1
        | some rest =>
          rw [hl] at hN
          exact scopeF_is hev m rest fr1 h1 N hN R1 w1 a1 hh1 hf1 fun q hq2 R2 w2 a2 e2 hh2 hf2 => hq q (hsub q hq2) R2 w2 a2 (x1.trans e2) hh2 hf2
theorem VR.func {R : Rn} {g : Nat} {c : Array Value} {v : Value} (h : VR R (.func (.func g) #[] c) v) : ∃ c', v = .func (.func g) #[] c' ∧ A2 (BR R) c.toList c'.toList := by
  rcases h with (h | ⟨_, _, h, _⟩) | ⟨_, _, h, _⟩
  · cases h with
    | lit _ hl =>
      have hl2 : ((#[] : Array Value).isEmpty && c.isEmpty) = true := hl
      simp at hl2
      subst hl2
      exact ⟨#[], rfl, rfl, fun i v hv => by simp at hv⟩
    | fn _ _ _ f' c' h1 h2 =>
      have : f' = #[] := Array.eq_empty_of_size_eq_zero (by have := h1.1; simpa using this.symm)
      subst this
      exact ⟨c', rfl, h2⟩
  · cases h
  · cases h
theorem run_callFunc {P : Program} {f : Nat} (h : Callable P f) (args : Array Value) (w : World) : (callFunc f args).run P w = .ok (.enter f args) w := by
  obtain ⟨fn, hfn, hnm, hbd⟩ := h
  have hn' : fn.name ≠ "runtime.NumGoroutine" := by simpa using hnm
  have hb' : fn.body ≠ none := by intro e; rw [e] at hbd; cases hbd
  simp [callFunc, hfn, hn', hb']
theorem ev_is {P : Program} {sz : Nat → Nat} {fns : Tr Func} {op : CallF → OpL} {dr : CallF → Nat → Array Oper → Fr → Hp → Option (Fr × Hp)} {res : Func → Fr → Hp → Option Value}
    (hfn : FnOK P fns) (hres : ResS P sz res) (hop : ∀ call, CallS P sz call → OpSL P sz (op call)) (hdr : ∀ call, CallS P sz call → DrS P sz (dr call)) :
    ∀ n, EvS P sz (ev fns op dr res n) ∧ ∀ w0 Φ nt b fr h L, ev fns op dr res n nt (.loop b) fr h = some L → ∀ (R : Rn) (rd : Option Nat) (w : World) (a : Act) (Q : Exit → Act → World → Prop), HR sz w0 Φ R w h → FR R rd nt fr a →
      (∀ p ∈ L, ∀ R' w' a', Ext R R' → HR sz w0 Φ R' w' p.2.2 → FR R' rd nt p.2.1 a' → Q p.1.to a' w') → Code.roundsIn (FW rd) 0 P b Q n a w
  | 0 => ⟨fun w0 Φ nt c fr h L he => (by cases he), fun w0 Φ nt b fr h L he => (by cases he)⟩
  | n + 1 => by
    obtain ⟨ih, ihl⟩ := ev_is hfn hres hop hdr n
    have loop : ∀ w0 Φ nt b fr h L, ev fns op dr res (n + 1) nt (.loop b) fr h = some L → ∀ (R : Rn) (rd : Option Nat) (w : World) (a : Act) (Q : Exit → Act → World → Prop), HR sz w0 Φ R w h → FR R rd nt fr a →
        (∀ p ∈ L, ∀ R' w' a', Ext R R' → HR sz w0 Φ R' w' p.2.2 → FR R' rd nt p.2.1 a' → Q p.1.to a' w') → Code.roundsIn (FW rd) 0 P b Q (n + 1) a w := by
      intro w0 Φ nt b fr h L he R rd w a Q hh hf hq
      rw [roundsIn_succ]
      rw [ev] at he
      cases hb : ev fns op dr res n nt b fr h with
      | none => rw [hb] at he; cases he
      | some M =>
        rw [hb] at he
        dsimp only at he
        refine ih w0 Φ _ _ _ _ _ hb R rd w a _ hh hf fun p hp R1 w1 a1 e1' hh1 hf1 => ?_
        obtain ⟨N, hN, hsub⟩ := bindL_is he p hp
        obtain ⟨e1, fr1, h1⟩ := p
        cases e1 with
        | normal => exact ihl w0 Φ nt b fr1 h1 N hN R1 rd w1 a1 Q hh1 hf1 fun q hq2 R2 w2 a2 e2 hh2 hf2 => hq q (hsub q hq2) R2 w2 a2 (e1'.trans e2) hh2 hf2
        | exit i => cases hN; exact hq _ (hsub _ (List.mem_singleton_self _)) R1 w1 a1 e1' hh1 hf1
        | goto i => cases hN; exact hq _ (hsub _ (List.mem_singleton_self _)) R1 w1 a1 e1' hh1 hf1
        | ret => cases hN; exact hq _ (hsub _ (List.mem_singleton_self _)) R1 w1 a1 e1' hh1 hf1
    refine ⟨?_, loop⟩
    intro w0 Φ nt c fr h L he R rd w a Q hh hf hq
    have hcall := callB_is (evn := ev fns op dr res n) hfn hres ih
    cases c with
    | skip => cases he; exact wpIn_skip (hq _ (List.mem_singleton_self _) R w a (.refl R) hh hf)
    | label l => cases he; exact wpIn_label (hq _ (List.mem_singleton_self _) R w a (.refl R) hh hf)
    | exit i => cases he; exact wpIn_exit (hq _ (List.mem_singleton_self _) R w a (.refl R) hh hf)
    | goto i => cases he; exact wpIn_goto (hq _ (List.mem_singleton_self _) R w a (.refl R) hh hf)
    | ret => cases he; exact wpIn_ret (hq _ (List.mem_singleton_self _) R w a (.refl R) hh hf)
    | region id ops draw =>
      rw [ev] at he
      cases draw with
      | true =>
        dsimp only [cond_true] at he
        cases ho : dr (callB fns res (ev fns op dr res n)) nt ops fr h with
        | none => rw [ho] at he; cases he
        | some p =>
          obtain ⟨fr1, h1⟩ := p
          rw [ho] at he
          cases he
          exact hdr _ hcall w0 Φ nt ops fr h _ _ ho id R rd w a Q hh hf fun R' w' a' x1 x2 x3 => hq _ (List.mem_singleton_self _) R' w' a' x1 x2 x3
      | false =>
        dsimp only [cond_false] at he
        cases ho : opsL (op (callB fns res (ev fns op dr res n))) nt ops ops.toList fr h with
        | none => rw [ho] at he; cases he
        | some M =>
          rw [ho] at he
          cases he
          refine wpIn_region ?_
          rw [List.range_eq_range', ← Array.length_toList]
          exact opsL_is (hop _ hcall) ops.toList 0 (fun i => by simp) fr h R w a M ho hh hf fun p hp R' w' a' x1 x2 x3 => hq (.normal, p.1, p.2) (List.mem_map.2 ⟨p, hp, rfl⟩) R' w' a' x1 x2 x3
    | seq x y =>
      rw [ev] at he
      refine wpIn_seq ?_
      cases hx : ev fns op dr res n nt x fr h with
      | none => rw [hx] at he; cases he
      | some M =>
        rw [hx] at he
        dsimp only at he
        refine ih w0 Φ _ _ _ _ _ hx R rd w a _ hh hf fun p hp R1 w1 a1 e1' hh1 hf1 => ?_
        obtain ⟨N, hN, hsub⟩ := bindL_is he p hp
        obtain ⟨e1, fr1, h1⟩ := p
        cases e1 with
        | normal => exact ih w0 Φ _ _ _ _ _ hN R1 rd w1 a1 Q hh1 hf1 fun q hq2 R2 w2 a2 e2 hh2 hf2 => hq q (hsub q hq2) R2 w2 a2 (e1'.trans e2) hh2 hf2
        | exit i => cases hN; exact hq _ (hsub _ (List.mem_singleton_self _)) R1 w1 a1 e1' hh1 hf1
        | goto i => cases hN; exact hq _ (hsub _ (List.mem_singleton_self _)) R1 w1 a1 e1' hh1 hf1
        | ret => cases hN; exact hq _ (hsub _ (List.mem_singleton_self _)) R1 w1 a1 e1' hh1 hf1
    | cond x p q =>
      rw [ev] at he
      cases hx : ev1 fr x with
      | none => rw [hx] at he; cases he
      | some v =>
        rw [hx] at he
        obtain ⟨v', h1, h2⟩ := ev1_is hf hx
        cases v <;> first | (cases he; done) | skip
        case bool t =>
          rw [h2.bool] at h1
          refine wpIn_cond h1 ?_
          cases t with
          | true => exact ih w0 Φ _ _ _ _ _ he R rd w a Q hh hf hq
          | false => exact ih w0 Φ _ _ _ _ _ he R rd w a Q hh hf hq
    | block id b =>
      rw [ev] at he
      refine wpIn_block ?_
      cases hx : ev fns op dr res n nt b fr h with
      | none => rw [hx] at he; cases he
      | some M =>
        rw [hx] at he
        cases he
        refine ih w0 Φ _ _ _ _ _ hx R rd w a _ hh hf fun p hp R1 w1 a1 e1' hh1 hf1 => ?_
        have hm : blockK id p ∈ M.map (blockK id) := List.mem_map.2 ⟨p, hp, rfl⟩
        obtain ⟨e1, fr1, h1⟩ := p
        cases e1 with
        | normal => exact hq _ hm R1 w1 a1 e1' hh1 hf1
        | goto i => exact hq _ hm R1 w1 a1 e1' hh1 hf1
        | ret => exact hq _ hm R1 w1 a1 e1' hh1 hf1
        | exit i =>
          change if i = id then Q .normal a1 w1 else Q (.exit i) a1 w1
          unfold blockK at hm
          dsimp only at hm
          by_cases hid : i = id
          · rw [Tr.beq_iff, decide_eq_true hid] at hm
            rw [if_pos hid]
            exact hq _ hm R1 w1 a1 e1' hh1 hf1
          · rw [Tr.beq_iff, decide_eq_false hid] at hm
            rw [if_neg hid]
            exact hq _ hm R1 w1 a1 e1' hh1 hf1
    | loop b => exact wpIn_loop_rounds (n + 1) (loop w0 Φ nt b fr h L he R rd w a Q hh hf hq)
    | scope b =>
      rw [ev] at he
      cases hm : fr.ms.isSome with
      | false => rw [hm] at he; cases he
      | true =>
        rw [hm] at he
        dsimp only [cond_true] at he
        have hrd := hf.2.2.1.2.2 hm
        subst hrd
        exact wpIn_wide.2 (wp_scope_jmp (scopeF_is ih n b fr h L he R w a hh hf hq))
    | rangeFunc g ps as bd =>
      rw [ev] at he
      split at he
      · rename_i ms gf f cs hms hg
        cases hc : f.isEmpty && Nat.blt h.next 400000000 with
        | false => rw [hc] at he; cases he
        | true =>
          rw [hc] at he
          dsimp only [cond_true] at he
          rw [Bool.and_eq_true, Array.isEmpty_iff, Nat.blt_eq] at hc
          obtain ⟨rfl, hlt⟩ := hc
          have hrd := hf.2.2.1.2.2 (by rw [hms]; rfl)
          subst hrd
          obtain ⟨g', hg1, hg2⟩ := ev1_is hf hg
          obtain ⟨cs', rfl, hcs⟩ := hg2.func
          have hnx := hh.nx
          cases hcl : callB fns res (ev fns op dr res n) (.fn gf) (.func (.yield (h.next + 1)) #[] #[] :: cs.toList) ⟨(h.heap.put 40 h.next .defd).put 40 (h.next + 1) (.loop .ready none fr.t nt ps as bd), h.next + 2, h.tab⟩ with
          | none => rw [hcl] at he; cases he
          | some p =>
            obtain ⟨vr, h2⟩ := p
            rw [hcl] at he
            dsimp only at he
            refine wpIn_rangeFunc fun fn _ => ?_
            -- the two new blocks
            have n1 := hh.newO (w' := w.alloc (.deferred (some []))) (g := w.heap.size) (k := 0) (b := .defd) (o := .deferred (some [])) (hh.stayAlloc _) hh.young (fun i c hc => Nat.ne_of_lt (hh.old hc)) (fun i c hc => Below.heap_alloc _ _ _ (hh.old hc)) (by show (w.heap.push _)[w.heap.size]? = _; simp) rfl
              (i := h.next) (h' := ⟨h.heap.put 40 h.next .defd, h.next + 1, h.tab⟩) (by unfold newA; rw [show Nat.blt h.next 500000000 = true by rw [Nat.blt_eq]; omega]; rfl)
            obtain ⟨_, hh1⟩ := n1
            have x1 := hh.add_ext w.heap.size 0
            generalize hR1 : R.add w.heap.size 0 = R1 at hh1 x1
            have hD1 : R1.D h.next := by rw [← hR1, hnx]; exact .inr rfl
            have hρ1 : R1.ρ h.next = w.heap.size := by rw [← hR1, hnx]; exact if_pos rfl
            generalize hw1 : w.alloc (.deferred (some [])) = w1 at hh1
            have hs1 : w1.heap.size = w.heap.size + 1 := by rw [← hw1]; simp
            generalize hlp : ({ state := .ready, pending := none, fn, tmps := a.tmps, params := ps, assign := as, body := bd, defers := w.heap.size } : Loop) = lp
            have x2 := hh1.add_ext w1.heap.size 0
            have n2 := hh1.newO (w' := w1.alloc (.loop lp)) (g := w1.heap.size) (k := 0) (b := .loop .ready none fr.t nt ps as bd) (o := .loop lp) (hh1.stayAlloc _) hh1.young (fun i c hc => Nat.ne_of_lt (hh1.old hc)) (fun i c hc => Below.heap_alloc _ _ _ (hh1.old hc)) (by show (w1.heap.push _)[w1.heap.size]? = _; simp)
              (by
                refine ⟨lp, rfl, ?_⟩
                rw [← hlp]
                exact ⟨rfl, rfl, rfl, rfl, rfl, hf.1, hf.2.1, fun k v hv => by
                  obtain ⟨v', h5, h6⟩ := hf.2.2.2 k v hv
                  exact ⟨v', h5, (h6.ext x1.weak).ext x2.weak⟩⟩)
              (i := h.next + 1) (h' := ⟨(h.heap.put 40 h.next .defd).put 40 (h.next + 1) (.loop .ready none fr.t nt ps as bd), h.next + 2, h.tab⟩) (by unfold newA; rw [show Nat.blt (h.next + 1) 500000000 = true by rw [Nat.blt_eq]; omega]; rfl)
            obtain ⟨hi2, hh2⟩ := n2
            generalize hR2 : R1.add w1.heap.size 0 = R2 at hh2 x2
            have hD2 : R2.D (h.next + 1) := by rw [← hR2, hi2]; exact .inr rfl
            have hρ2 : R2.ρ (h.next + 1) = w.heap.size + 1 := by rw [← hR2, hi2, ← hs1]; exact if_pos rfl
            generalize hw2 : w1.alloc (.loop lp) = w2 at hh2
            have x12 := x1.trans x2
            have hA : A2 (VR R2) (.func (.yield (h.next + 1)) #[] #[] :: cs.toList) (#[Value.func (.yield (w.heap.size + 1)) #[] #[]] ++ cs').toList := by
              refine ⟨by have := hcs.1; simp at this ⊢; omega, fun i v hv => ?_⟩
              rw [Array.toList_append]
              cases i with
              | zero =>
                cases hv
                refine ⟨_, rfl, ?_⟩
                rw [← hρ2]
                exact .inl (.inl (.yl _ hD2))
              | succ i =>
                obtain ⟨v', h5, h6⟩ := hcs.2 i v hv
                exact ⟨v', h5, .inl (.inl (h6.ext x12).sr)⟩
            obtain ⟨hcb, _⟩ := hcall w0 Φ (.fn gf) _ _ _ _ hcl R2 w2 _ (fun _ _ => True) hh2 hA fun _ _ _ _ _ _ => trivial
            refine ⟨w.heap.size + 1, [{ target := .collected w.heap.size, args := #[] }], w2, { target := .fn (.func gf) cs', args := #[.func (.yield (w.heap.size + 1)) #[] #[]] }, w2, gf, #[Value.func (.yield (w.heap.size + 1)) #[] #[]] ++ cs', w2, ?_, ?_, fun _ _ => trivial, ?_, fun hx => (by cases hx), callsIn_wide.2 ?_⟩
            · rw [← hw2, ← hw1, ← hlp]; exact run_enterLoop_outer _ _ _ _ _
            · simp only [resolve, hg1]
              simp [go_sem]
            · simp [invoke, go_sem, run_callFunc hcb]
            · refine (hcall w0 Φ (.fn gf) _ _ _ _ hcl R2 w2 _ (rangePost (FW none) 0 P (w.heap.size + 1) Q { a with defers := [{ target := .collected w.heap.size, args := #[] }] ++ a.defers }) hh2 hA fun R3 w3 v3 x3 hh3 hv3 => ?_).2
              split at he
              · rename_i st pend t4 nt4 ps4 as4 bd4 hb4
                cases hbz : isBusy st with
                | true => rw [hbz] at he; cases he
                | false =>
                  rw [hbz] at he
                  dsimp only [cond_false] at he
                  obtain ⟨hD4, hΦ4, o4, ho4, l4, rfl, q1, q2, q3⟩ := hh3.blk _ _ hb4
                  have hρ4 : R3.ρ (h.next + 1) = w.heap.size + 1 := by rw [x3.ρ _ hD2, hρ2]
                  rw [hρ4] at ho4 hΦ4
                  have hne : l4.state ≠ .busy := fun e => by rw [q1] at e; subst e; cases hbz
                  have hh5 : HR sz w0 Φ R3 (w3.putObj (w.heap.size + 1) (.loop { l4 with state := .exhausted })) ⟨h2.heap.del (h.next + 1), h2.next, h2.tab⟩ := by
                    refine (hh3.del (h.next + 1)).on ⟨rfl, rfl, rfl, by simp, fun k hk => World.putObj_heap_other (fun e => hΦ4 (e ▸ hk))⟩ fun j c hc => ?_
                    dsimp only at hc
                    rw [Tr.get_del] at hc
                    by_cases e : j = h.next + 1
                    · rw [if_pos e] at hc; cases hc
                    · rw [if_neg e] at hc
                      exact World.putObj_heap_other (fun e' => e (hh3.inj j _ c _ hc hb4 (e'.trans hρ4.symm)))
                  have hf5 : FR R3 none nt ⟨fr.t, some (h.next :: ms)⟩ { a with defers := [{ target := .collected w.heap.size, args := #[] }] ++ a.defers } := by
                    have hf3 := (hf.ext x12.weak).ext x3.weak
                    refine ⟨hf3.1, hf3.2.1, ⟨?_, ?_, fun _ => rfl⟩, hf3.2.2.2⟩
                    · have e1 := hf3.2.2.1.1
                      rw [hms] at e1
                      show _ ++ a.defers = _
                      rw [e1]
                      unfold marks
                      simp only [Option.getD_some, List.map_cons]
                      rw [(x2.trans x3).ρ _ hD1, hρ1]
                      rfl
                    · intro i hi
                      rcases List.mem_cons.1 hi with rfl | hi
                      · exact (x2.trans x3).D _ hD1
                      · exact hf3.2.2.1.2.1 i (by rw [hms]; exact hi)
                  refine ⟨l4.pending, _, run_endLoop ho4 hne, ?_⟩
                  generalize hwx : w3.putObj (w.heap.size + 1) (.loop { l4 with state := .exhausted }) = wx at hh5
                  rw [q2]
                  cases pend with
                  | none => cases he; exact hq _ (List.mem_singleton_self _) R3 _ _ (x12.trans x3) hh5 hf5
                  | some c => exact ih w0 Φ _ _ _ _ _ he R3 none _ _ Q hh5 hf5 fun q hq2 R4 w4 a4 x4 => hq q hq2 R4 w4 a4 ((x12.trans x3).trans x4)
              · cases he
      · cases he
    | refuse s => cases he
end Go.Ev
/- Single operations of the evaluator: values, numbers, addresses. -/
noncomputable section
namespace Go.Ev
set_option linter.unusedVariables false
set_option linter.unusedSimpArgs false

section
variable {P : Program} {o : Oper} {a : Act} {w w' : World} {K : Act → World → Prop} {Q : Exit → Act → World → Prop} {rd : Option Nat}
theorem wp_val (nd : ∀ c, o.op ≠ .defer c) {v : Value} (h : (execOp a.eval o).run P w = .ok (.value v) w') (hK : K (a.put o.dst v) w') : o.wpIn (FW rd) 0 P a w K Q := by
  refine ⟨fun _ _ => trivial, ?_⟩
  rw [Oper.semAt_eq _ _ _ nd, h]
  exact hK
theorem wp_skp (nd : ∀ c, o.op ≠ .defer c) (h : (execOp a.eval o).run P w = .ok .skip w') (hK : K (a.put o.dst undef) w') : o.wpIn (FW rd) 0 P a w K Q := by
  refine ⟨fun _ _ => trivial, ?_⟩
  rw [Oper.semAt_eq _ _ _ nd, h]
  exact hK
theorem run_v {s : Sem Value} {v : Value} (h : s.run P w = .ok v w') : (do pure (Next.value (← s)) : Sem Next).run P w = .ok (.value v) w' := by
  rw [Sem.run_bind, h]; rfl
theorem run_u {s : Sem Unit} (h : s.run P w = .ok () w') : (do s; pure Next.skip : Sem Next).run P w = .ok .skip w' := by
  rw [Sem.run_bind, h]; rfl
end

def memN (x : Nat) : List Nat → Bool
  | [] => false
  | y :: l => Nat.beq x y || memN x l
theorem memN_iff (x : Nat) : ∀ l, memN x l = true ↔ x ∈ l
  | [] => by simp [memN]
  | y :: l => by rw [memN, Bool.or_eq_true, memN_iff x l, List.mem_cons, Tr.beq_iff, decide_eq_true_iff]
/-- the types, and the structs that are held against each other -/
structure Ty where
  tr : Tr TypeInfo
  cm : List Nat
def Ty.get (ty : Ty) (t : Nat) : Option TypeInfo := ty.tr.get t
def EqT (P : Program) (t : Nat) : Bool := !P.eqGuardType P.depth t && !P.stoodInHeld t && (P.fieldsOf t).toList.all (·.name != "_")
structure TyOK (P : Program) (tt : Ty) : Prop where
  ty : ∀ t i, tt.get t = some i → P.info? t = some i
  cm : ∀ t, t ∈ tt.cm → EqT P t = true
section
variable (ty : Ty)
def desc (t : Nat) : Option TypeDesc :=
  match ty.get t with
  | some i => match i.desc with
    | .named _ u => match ty.get u with
      | some j => some j.desc
      | none => none
    | d => some d
  | none => none
def size (t : Nat) : Option Nat := match ty.get t with | some i => some i.size | none => none
def zero (t : Nat) : Option Value := match ty.get t with | some i => i.zero | none => none
def isAg (t : Nat) : Option Bool := match desc ty t with | some (.struct _) => some true | some (.array _ _) => some true | some _ => some false | none => none
end
section
variable {P : Program} {ty : Ty} (T : TyOK P ty) (w : World)
include T
theorem desc_is {t : Nat} {d : TypeDesc} (h : desc ty t = some d) : P.underlying t = some d := by
  unfold desc at h
  cases hi : ty.get t with
  | none => rw [hi] at h; cases h
  | some i =>
    rw [hi] at h
    dsimp only at h
    unfold Program.underlying
    rw [T.ty t i hi]
    cases i with
    | mk dd =>
      dsimp only at h ⊢
      cases dd <;> dsimp only at h ⊢ <;> first | (cases h; rfl; done) | skip
      case named nm u =>
        cases hu : ty.get u with
        | none => rw [hu] at h; cases h
        | some j =>
          rw [hu] at h
          cases h
          rw [T.ty u j hu]
          rfl
theorem size_is {t n : Nat} (h : size ty t = some n) : (sizeOf t).run P w = .ok n w := by
  unfold size at h
  cases hi : ty.get t with
  | none => rw [hi] at h; cases h
  | some i => rw [hi] at h; cases h; simp [sizeOf, typeInfo, T.ty t i hi]
theorem zero_is {t : Nat} {z : Value} (h : zero ty t = some z) : (zeroValue t).run P w = .ok z w := by
  unfold zero at h
  cases hi : ty.get t with
  | none => rw [hi] at h; cases h
  | some i => rw [hi] at h; dsimp only at h; simp [zeroValue, typeInfo, T.ty t i hi, h]
theorem isAg_is {t : Nat} {b : Bool} (h : isAg ty t = some b) : (isAgg t).run P w = .ok b w := by
  unfold isAg at h
  cases hd : desc ty t with
  | none => rw [hd] at h; cases h
  | some d =>
    rw [hd] at h
    have hu := desc_is T hd
    cases d <;> cases h <;> simp [isAgg, underlying, hu]
end

/-- what an operation's word says of a run -/
def Ok (P : Program) (sz : Nat → Nat) (w0 : World) (Φ : Fx) (R : Rn) (w : World) (h' : Hp) (v : Value) (s : Sem Value) : Prop :=
  ∃ R' w' v', Ext R R' ∧ HR sz w0 Φ R' w' h' ∧ VR R' v v' ∧ s.run P w = .ok v' w'
theorem Ok.same {P : Program} {sz : Nat → Nat} {w0 : World} {Φ : Fx} {R : Rn} {w : World} {h : Hp} {v v' : Value} {s : Sem Value} (hh : HR sz w0 Φ R w h) (hv : VR R v v') (hs : s.run P w = .ok v' w) : Ok P sz w0 Φ R w h v s :=
  ⟨R, w, v', .refl R, hh, hv, hs⟩

/-- the same of one that changes nothing -/
def Ok0 (P : Program) (R : Rn) (w : World) (v : Value) (s : Sem Value) : Prop := ∃ v', VR R v v' ∧ s.run P w = .ok v' w
theorem Ok0.same {P : Program} {sz : Nat → Nat} {w0 : World} {Φ : Fx} {R : Rn} {w : World} {h : Hp} {v v' : Value} {s : Sem Value} (hh : HR sz w0 Φ R w h) (hv : VR R v v') (hs : s.run P w = .ok v' w) : Ok0 P R w v s := ⟨v', hv, hs⟩
theorem Ok0.ok {P : Program} {sz : Nat → Nat} {w0 : World} {Φ : Fx} {R : Rn} {w : World} {h : Hp} {v : Value} {s : Sem Value} (o : Ok0 P R w v s) (hh : HR sz w0 Φ R w h) : Ok P sz w0 Φ R w h v s := by
  obtain ⟨v', h1, h2⟩ := o
  exact .same hh h1 h2
theorem VR.int {R : Rn} {k : IntKind} {n : Int} {v : Value} (h : VR R (.int k n) v) : v = .int k n := by
  rcases h with (h | ⟨_, _, h, _⟩) | ⟨_, _, h, _⟩
  · cases h; rfl
  · cases h
  · cases h
theorem VR.str {R : Rn} {s : ByteArray} {v : Value} (h : VR R (.string s) v) : v = .string s := by
  rcases h with (h | ⟨_, _, h, _⟩) | ⟨_, _, h, _⟩
  · cases h; rfl
  · cases h
  · cases h
theorem VR.ptr {R : Rn} {a : Addr} {v : Value} (h : VR R (.pointer (some a)) v) : v = .pointer (some (ra R a)) ∧ a.spot = none ∧ Nm R a.block := by
  rcases h with (h | ⟨_, _, h, _⟩) | ⟨_, _, h, _⟩
  · cases h with
    | lit _ hl => cases hl
    | ptr _ h0 hb => exact ⟨rfl, h0, hb⟩
  · cases h
  · cases h

/-- two numbers -/
def o_int (op : BinOp) (t : Nat) (x y : Value) : Option Value :=
  match x, y with
  | .int k a, .int l b => match binOp op t (.int k a) (.int l b) with
    | .pure v => bif lit v then some v else none
    | _ => none
  | .float k a, .float l b => match binOp op t (.float k a) (.float l b) with
    | .pure v => bif lit v then some v else none
    | _ => none
  | .complex k a b, .complex l c d => match binOp op t (.complex k a b) (.complex l c d) with
    | .pure v => bif lit v then some v else none
    | _ => none
  | _, _ => none
theorem VR.flt {R : Rn} {k : FloatKind} {n : Nat} {v : Value} (h : VR R (.float k n) v) : v = .float k n := by
  rcases h with (h | ⟨_, _, h, _⟩) | ⟨_, _, h, _⟩
  · cases h; rfl
  · cases h
  · cases h
theorem VR.cpx {R : Rn} {k : FloatKind} {n m : Nat} {v : Value} (h : VR R (.complex k n m) v) : v = .complex k n m := by
  rcases h with (h | ⟨_, _, h, _⟩) | ⟨_, _, h, _⟩
  · cases h; rfl
  · cases h
  · cases h
theorem o_int_is {P : Program} {sz : Nat → Nat} {w0 : World} {Φ : Fx} {R : Rn} {w : World} {h : Hp} (hh : HR sz w0 Φ R w h) {op : BinOp} {t : Nat} {ox oy : Operand} {x y x' y' v : Value} (hx : VR R x x') (hy : VR R y y')
    (ho : o_int op t x y = some v) : Ok0 P R w v (do eqGuard op t ox oy x' y'; binOp op t x' y') := by
  unfold o_int at ho
  split at ho
  · rename_i k a l b
    rw [hx.int, hy.int]
    split at ho
    · rename_i u hu
      cases hl : lit u with
      | false => rw [hl] at ho; cases ho
      | true =>
        rw [hl] at ho
        cases ho
        refine .same hh (.lit hl) ?_
        have hg : (eqGuard op t ox oy (.int k a) (.int l b)).run P w = .ok () w := by
          unfold eqGuard
          cases op <;> rfl
        rw [Sem.run_bind, hg]
        change (binOp op t (.int k a) (.int l b)).run P w = _
        rw [hu]
        rfl
    · cases ho
  · rename_i k a l b
    rw [hx.flt, hy.flt]
    split at ho
    · rename_i u hu
      cases hl : lit u with
      | false => rw [hl] at ho; cases ho
      | true =>
        rw [hl] at ho
        cases ho
        refine .same hh (.lit hl) ?_
        have hg : (eqGuard op t ox oy (.float k a) (.float l b)).run P w = .ok () w := by
          unfold eqGuard
          cases op <;> rfl
        rw [Sem.run_bind, hg]
        change (binOp op t (.float k a) (.float l b)).run P w = _
        rw [hu]
        rfl
    · cases ho
  · rename_i k a b l c d
    rw [hx.cpx, hy.cpx]
    split at ho
    · rename_i u hu
      cases hl : lit u with
      | false => rw [hl] at ho; cases ho
      | true =>
        rw [hl] at ho
        cases ho
        refine .same hh (.lit hl) ?_
        have hg : (eqGuard op t ox oy (.complex k a b) (.complex l c d)).run P w = .ok () w := by
          unfold eqGuard
          cases op <;> rfl
        rw [Sem.run_bind, hg]
        change (binOp op t (.complex k a b) (.complex l c d)).run P w = _
        rw [hu]
        rfl
    · cases ho
  · cases ho
/-- two texts -/
def less : List UInt8 → List UInt8 → Bool
  | _, [] => false
  | [], _ :: _ => true
  | a :: x, b :: y => Nat.blt a.toNat b.toNat || (Nat.beq a.toNat b.toNat && less x y)
def o_str (op : BinOp) (x y : Value) : Option Value :=
  match x, y with
  | .string a, .string b =>
    let x := a.data.toList
    let y := b.data.toList
    match op with
    | .add => bif Nat.ble (x.length + y.length) 1000000 then some (.string ⟨(x ++ y).toArray⟩) else none
    | .eql => some (.bool (same x y))
    | .neq => some (.bool (!same x y))
    | .lss => some (.bool (less x y))
    | .leq => some (.bool (less x y || same x y))
    | .gtr => some (.bool (!(less x y || same x y)))
    | .geq => some (.bool (!less x y))
    | _ => none
  | _, _ => none
/-- addresses -/
def fld (ty : Ty) (s f : Nat) : Option Field := match desc ty s with
  | some (.struct fs) => fs.toList[f]?
  | _ => none
def o_fieldAddr (ty : Ty) (s : Nat) (x : Value) (f : Nat) : Option Value :=
  match x, fld ty s f with
  | .pointer (some a), some g => match size ty g.type with
    | some n => bif Nat.beq n 0 then none else some (.pointer (some ⟨a.block, a.off + g.offset, none⟩))
    | none => none
  | _, _ => none
theorem ra_add {R : Rn} (a : Addr) (n : Nat) : (ra R a).add n = ra R ⟨a.block, a.off + n, none⟩ := by
  unfold ra Addr.add
  split
  · rename_i h
    simp_all
  · rfl
theorem o_fieldAddr_is {P : Program} {ty : Ty} (T : TyOK P ty) {sz : Nat → Nat} {w0 : World} {Φ : Fx} {R : Rn} {w : World} {h : Hp} (hh : HR sz w0 Φ R w h) {s : Nat} {x x' : Value} {f : Nat} {v : Value} (hx : VR R x x')
    (ho : o_fieldAddr ty s x f = some v) : Ok0 P R w v (Instr.fieldAt s x' f) := by
  unfold o_fieldAddr at ho
  split at ho
  · rename_i a g hg
    obtain ⟨rfl, hs, hb⟩ := hx.ptr
    unfold fld at hg
    split at hg
    · rename_i fs hd
      have hu := desc_is T hd
      cases hz : size ty g.type with
      | none => rw [hz] at ho; cases ho
      | some n =>
        rw [hz] at ho
        dsimp only at ho
        cases hn : Nat.beq n 0 with
        | true => rw [hn] at ho; cases ho
        | false =>
          rw [hn] at ho
          cases ho
          have hn0 : n ≠ 0 := Nat.ne_of_beq_eq_false hn
          refine .same hh (.inl (.inl (.ptr ⟨a.block, a.off + g.offset, none⟩ rfl hb))) ?_
          rw [Array.getElem?_toList] at hg
          unfold Instr.fieldAt
          simp [underlying, hu, hg, Instr.sureAddr, fieldPlace, size_is T w hz, hn0, ra_add]
    · cases hg
  · cases ho
end Go.Ev
/- Single operations of the evaluator: memory. -/
noncomputable section
namespace Go.Ev
open Go.RowKit
set_option linter.unusedVariables false
set_option linter.unusedSimpArgs false

def cutL (l : List Value) (o n : Nat) : Option (List Value) := bif Nat.beq ((l.drop o).take n).length n then some ((l.drop o).take n) else none
def ldA (h : Hp) (a : Addr) (n : Nat) : Option (List Value) :=
  match h.heap.get a.block with
  | some (.row b) => cutL b.cells a.off n
  | some _ => none
  | none => bif Nat.blt many a.block then match h.tab.get (a.block - (many + 1)) with
    | some l => cutL l a.off n
    | none => none
    else none
def stA (h : Hp) (a : Addr) (vs : List Value) : Option Hp :=
  match h.heap.get a.block with
  | some (.row b) => bif Nat.ble (a.off + vs.length) b.cells.length then some ⟨h.heap.put 40 a.block (.row ⟨b.cells.take a.off ++ vs ++ b.cells.drop (a.off + vs.length), b.elem, b.grow⟩), h.next, h.tab⟩ else none
  | _ => none
def cellsOf : Value → Option (List Value)
  | .agg a => some a.toList
  | .tuple _ => none
  | v => some [v]

theorem SR.one {R : Rn} {v v' : Value} (h : SR R v v') : v'.oneCell' = true := by
  cases h with
  | lit v hl => cases v <;> first | rfl | (cases hl; done)
  | ptr _ _ _ => rfl
  | sl _ _ _ _ _ _ => rfl
  | slg _ _ _ _ _ _ _ _ => rfl
  | sle _ _ => rfl
  | mp _ _ => rfl
  | yl _ _ => rfl
  | fn _ _ _ _ _ _ _ => rfl
theorem SR.src {R : Rn} {v v' : Value} (h : SR R v v') : v.oneCell' = true := by
  cases h with
  | lit v hl => cases v <;> first | rfl | (cases hl; done)
  | ptr _ _ _ => rfl
  | sl _ _ _ _ _ _ => rfl
  | slg _ _ _ _ _ _ _ _ => rfl
  | sle _ _ => rfl
  | mp _ _ => rfl
  | yl _ _ => rfl
  | fn _ _ _ _ _ _ _ => rfl
theorem A2.single {r : Value → Value → Prop} {v v' : Value} (h : r v v') : A2 r [v] [v'] :=
  ⟨rfl, fun i x hx => by cases i with
    | zero => cases hx; exact ⟨v', rfl, h⟩
    | succ i => cases hx⟩
theorem cellsOf_is {R : Rn} {v v' : Value} {l : List Value} (hv : VR R v v') (h : cellsOf v = some l) : A2 (SR R) l v'.cells.toList := by
  rcases hv with (hs | ⟨cs, cs', rfl, rfl, h3⟩) | ⟨_, _, rfl, _, _⟩
  · have h1 := hs.one
    have h0 := hs.src
    have e : cellsOf v = some [v] := by cases v <;> first | rfl | (cases h0; done)
    have e' : v'.cells = #[v'] := by cases v' <;> first | rfl | (cases h1; done)
    rw [e] at h
    cases h
    rw [e']
    exact .single hs
  · cases h
    exact h3
  · cases h
theorem A2.one {R : Rn} {l l' : List Value} (h : A2 (SR R) l l') : ∀ v ∈ l', v.oneCell' = true := by
  intro v hv
  obtain ⟨i, hi⟩ := List.mem_iff_getElem?.1 hv
  have hlt : i < l'.length := (List.getElem?_eq_some_iff.1 hi).1
  obtain ⟨v', h1, h2⟩ := h.2 i _ (List.getElem?_eq_getElem (by rw [h.1]; exact hlt))
  rw [hi] at h1
  cases h1
  exact h2.one
theorem A2.get {r : Value → Value → Prop} {l l' : List Value} (h : A2 r l l') {i : Nat} {v v' : Value} (hv : l[i]? = some v) (hv' : l'[i]? = some v') : r v v' := by
  obtain ⟨x, h1, h2⟩ := h.2 i v hv
  rw [hv'] at h1
  cases h1
  exact h2

section
variable {P : Program} {sz : Nat → Nat} {w0 : World} {Φ : Fx} {R : Rn} {w : World} {h : Hp}
/-- what is read -/
theorem cutL_is {cells : List Value} {cur : Array Value} (hcs : ∀ (j : Nat) (v : Value), cells[j]? = some v → ∃ v', cur[j]? = some v' ∧ SR R v v') {o n : Nat} {l : List Value} (hl : cutL cells o n = some l) :
    ∃ l', A2 (SR R) l l' ∧ l'.length = n ∧ ∀ (j : Nat) (v : Value), l'[j]? = some v → cur[o + j]? = some v := by
  unfold cutL at hl
  cases hn : Nat.beq ((cells.drop o).take n).length n with
  | false => rw [hn] at hl; cases hl
  | true =>
    rw [hn] at hl
    cases hl
    have hlen := Nat.eq_of_beq_eq_true hn
    have at' : ∀ (j : Nat) (v : Value), ((cells.drop o).take n)[j]? = some v → cells[o + j]? = some v ∧ j < n := fun j v hv => by
      have hj : j < n := by have := (List.getElem?_eq_some_iff.1 hv).1; omega
      rw [List.getElem?_take, if_pos hj, List.getElem?_drop] at hv
      exact ⟨hv, hj⟩
    have hsz : ((cur.toList.drop o).take n).length = n := by
      rcases Nat.eq_zero_or_pos n with h0 | h0
      · subst h0; simp
      · have hl1 : n - 1 < ((cells.drop o).take n).length := by omega
        obtain ⟨v', hv', _⟩ := hcs _ _ (at' _ _ (List.getElem?_eq_getElem hl1)).1
        have := (Array.getElem?_eq_some_iff.1 hv').1
        simp only [List.length_take, List.length_drop, Array.length_toList]
        omega
    refine ⟨(cur.toList.drop o).take n, ⟨by rw [hlen, hsz], fun j v hv => ?_⟩, hsz, fun j v hv => ?_⟩
    · obtain ⟨h1, h2⟩ := at' j v hv
      obtain ⟨v', hv', hr⟩ := hcs _ _ h1
      refine ⟨v', ?_, hr⟩
      rw [List.getElem?_take, if_pos h2, List.getElem?_drop, Array.getElem?_toList]
      exact hv'
    · have hj : j < n := by have := (List.getElem?_eq_some_iff.1 hv).1; omega
      rw [List.getElem?_take, if_pos hj, List.getElem?_drop, Array.getElem?_toList] at hv
      exact hv
theorem HR.small_of (hh : HR sz w0 Φ R w h) {i : Nat} (hi : R.D i) : i < many := by
  have h1 := hh.dom i hi
  have h2 := hh.small
  have h3 : many = 36893488147419103232 := rfl
  omega
theorem rb_of (hh : HR sz w0 Φ R w h) {i : Nat} (hi : R.D i) : rb R i = R.ρ i := if_neg (by have := hh.small_of hi; omega)
theorem ldA_is (hh : HR sz w0 Φ R w h) {a : Addr} (ha : a.spot = none) {n : Nat} {l : List Value} (hl : ldA h a n = some l) :
    ∃ l', A2 (SR R) l l' ∧ l'.length = n ∧ ∀ (j : Nat) (v : Value), l'[j]? = some v → w.cell? ((ra R a).add j) = some v := by
  unfold ldA at hl
  split at hl
  · rename_i b hb
    obtain ⟨hD, _, cur, hc, hcs, _, _⟩ := hh.row hb
    obtain ⟨l', h1, h2, h3⟩ := cutL_is hcs hl
    refine ⟨l', h1, h2, fun j v hv => ?_⟩
    rw [ra_add]
    simp [World.cell?, ra, rb_of hh hD, hc, h3 j v hv]
  · cases hl
  · cases hm : Nat.blt many a.block with
    | false => rw [hm] at hl; cases hl
    | true =>
      rw [hm] at hl
      dsimp only [cond_true] at hl
      rw [Nat.blt_eq] at hm
      split at hl
      · rename_i l0 hb
        obtain ⟨_, cur, e, z, hc, hcs⟩ := hh.tab _ _ hb
        obtain ⟨l', h1, h2, h3⟩ := cutL_is (cur := cur) (fun j v hv => by rw [← Array.getElem?_toList]; exact hcs.2 j v hv) hl
        refine ⟨l', h1, h2, fun j v hv => ?_⟩
        rw [ra_add]
        have e2 : rb R a.block = a.block - (many + 1) := if_pos hm
        simp [World.cell?, ra, e2, hc, h3 j v hv]
      · cases hl
/-- a cell that is written -/
theorem stA_is (hh : HR sz w0 Φ R w h) {a : Addr} (ha : a.spot = none) {vs vs' : List Value} (hv : A2 (SR R) vs vs') {h' : Hp} (hs : stA h a vs = some h') :
    ∃ w', HR sz w0 Φ R w' h' ∧ (storeCells (ra R a) vs').run P w = .ok () w' := by
  unfold stA at hs
  split at hs
  · rename_i b hb
    cases hn : Nat.ble (a.off + vs.length) b.cells.length with
    | false => rw [hn] at hs; cases hs
    | true =>
      rw [hn] at hs
      cases hs
      have hlen := Nat.le_of_ble_eq_true hn
      obtain ⟨hiN, hlo, cur, hc, hcs, hg1, hg2⟩ := hh.row hb
      have hcl : b.cells.length ≤ cur.size := by
        rcases Nat.eq_zero_or_pos b.cells.length with h0 | h0
        · omega
        · have hl1 : b.cells.length - 1 < b.cells.length := by omega
          obtain ⟨v', hv', _⟩ := hcs _ _ (List.getElem?_eq_getElem hl1)
          have := (Array.getElem?_eq_some_iff.1 hv').1
          omega
      have hvl := hv.1
      have hst := run_storeCells_at P (R.ρ a.block) a.off b.elem vs' 0 cur w hc (by omega) hv.one
      have era : ra R a = ⟨R.ρ a.block, a.off, none⟩ := by unfold ra; rw [rb_of hh hiN]
      rw [era]
      refine ⟨_, ?_, hst⟩
      generalize hcur' : (cur.toList.take (a.off + 0) ++ vs' ++ cur.toList.drop (a.off + 0 + vs'.length)).toArray = cur'
      have hsz : cur'.size = cur.size := by
        rw [← hcur']
        simp
        omega
      have hat : ∀ j, cur'[j]? = if j < a.off then cur[j]? else if j < a.off + vs.length then vs'[j - a.off]? else cur[j]? := fun j => by
        rw [← hcur']
        simp only [List.getElem?_toArray, List.getElem?_append, List.length_append, List.length_take, Array.length_toList, Nat.add_zero]
        rw [show min a.off cur.size = a.off by omega]
        by_cases h1 : j < a.off
        · have h3 : j < a.off + vs'.length := by omega
          simp only [h1, h3, if_true, List.getElem?_take, Array.getElem?_toList]
        · by_cases h2 : j < a.off + vs.length
          · have h3 : j < a.off + vs'.length := by omega
            simp only [h1, h2, h3, if_true, if_false]
          · have h3 : ¬ j < a.off + vs'.length := by omega
            simp only [h1, h2, h3, if_false, List.getElem?_drop, Array.getElem?_toList]
            rw [show a.off + vs'.length + (j - (a.off + vs'.length)) = j by omega]
      have hbt : ∀ j, (b.cells.take a.off ++ vs ++ b.cells.drop (a.off + vs.length))[j]? = if j < a.off then b.cells[j]? else if j < a.off + vs.length then vs[j - a.off]? else b.cells[j]? := fun j => by
        simp only [List.getElem?_append, List.length_append, List.length_take]
        rw [show min a.off b.cells.length = a.off by omega]
        by_cases h1 : j < a.off
        · have h3 : j < a.off + vs.length := by omega
          simp only [h1, h3, if_true, List.getElem?_take]
        · by_cases h2 : j < a.off + vs.length
          · simp only [h1, h2, if_true, if_false]
          · simp only [h1, h2, if_false, List.getElem?_drop]
            rw [show a.off + vs.length + (j - (a.off + vs.length)) = j by omega]
      have hbl : (b.cells.take a.off ++ vs ++ b.cells.drop (a.off + vs.length)).length = b.cells.length := by simp; omega
      refine hh.set (b := .row ⟨b.cells.take a.off ++ vs ++ b.cells.drop (a.off + vs.length), b.elem, b.grow⟩) (o := .cells cur' b.elem (0, 0)) hb ⟨rfl, rfl, rfl, by simp, fun k hk => setRow_other _ _ _ _ (fun e => hlo (e ▸ hk))⟩ (fun k hk _ => setRow_other _ _ _ _ hk) (setRow_heap _ _ _ _ _ _ hc) ⟨cur', rfl, fun j v hv' => ?_, fun hgr => ?_, fun hgr => ?_⟩
      · dsimp only at hv'
        rw [hbt] at hv'
        rw [hat]
        split
        · rename_i h1; rw [if_pos h1] at hv'; exact hcs j v hv'
        · rename_i h1
          rw [if_neg h1] at hv'
          split
          · rename_i h2; rw [if_pos h2] at hv'; exact hv.2 _ v hv'
          · rename_i h2; rw [if_neg h2] at hv'; exact hcs j v hv'
      · exact (hsz.trans (hg1 hgr)).trans hbl.symm
      · exact ⟨(hg2 hgr).1, hsz.trans (hg2 hgr).2⟩
  · cases hs
end
theorem A2.ext {R R' : Rn} {l l' : List Value} (h : A2 (SR R) l l') (e : Ext R R') : A2 (SR R') l l' := h.mono fun _ _ h => h.ext e
end Go.Ev
/- Single operations of the evaluator: variables. -/
noncomputable section
namespace Go.Ev
open Go.RowKit
set_option linter.unusedVariables false
set_option linter.unusedSimpArgs false
section
variable {P : Program} {ty : Ty} {sz : Nat → Nat} {w0 : World} {Φ : Fx} {R : Rn} {w : World} {h : Hp}
theorem newCell (hh : HR sz w0 Φ R w h) {l : List Value} {cur : Array Value} (hl : A2 (SR R) l cur.toList) {e i : Nat} {h' : Hp} (hn : newA h (.row ⟨l, e, false⟩) = some (i, h')) :
    ∃ R', Ext R R' ∧ HR sz w0 Φ R' (w.alloc (.cells cur e)) h' ∧ R'.D i ∧ R'.ρ i = w.heap.size := by
  obtain ⟨hi, hr⟩ := hh.new (w' := w.alloc (.cells cur e)) (g := w.heap.size) (k := 0) (cur := cur) (hh.stayAlloc _) hh.young (fun i c hc => Nat.ne_of_lt (hh.old hc)) (show (w.heap.push _)[w.heap.size]? = _ by simp)
    (fun i c hc => Below.heap_alloc _ _ _ (hh.old hc)) (fun j v hv => by rw [← Array.getElem?_toList]; exact hl.2 j v hv) (fun _ => by have := hl.1; simpa using this.symm) (fun hx => by cases hx) hn
  exact ⟨_, hh.add_ext _ _, hr, hi ▸ .inr rfl, if_pos hi⟩
theorem ptr_new (hh : HR sz w0 Φ R w h) {i g : Nat} (hD : R.D i) (hρ : R.ρ i = g) : VR R (.pointer (some ⟨i, 0, none⟩)) (.pointer (some ⟨g, 0, none⟩)) := by
  have := SR.ptr (R := R) ⟨i, 0, none⟩ rfl (.inl hD)
  have e : ra R ⟨i, 0, none⟩ = ⟨g, 0, none⟩ := by unfold ra; rw [rb_of hh hD, hρ]
  rw [e] at this
  exact .inl (.inl this)
theorem sl_new (hh : HR sz w0 Φ R w h) {i g : Nat} (hD : R.D i) (hρ : R.ρ i = g) (n c : Nat) (hc : c < many) : VR R (.slice (some ⟨i, 0, none⟩) n c) (.slice (some ⟨g, 0, none⟩) n c) := by
  have := SR.sl (R := R) ⟨i, 0, none⟩ n c rfl (.inl hD) hc
  have e : ra R ⟨i, 0, none⟩ = ⟨g, 0, none⟩ := by unfold ra; rw [rb_of hh hD, hρ]
  rw [e] at this
  exact .inl (.inl this)
theorem A2.lits : ∀ {l : List Value}, l.all lit = true → A2 (SR R) l l := fun {l} hl =>
  ⟨rfl, fun i v hv => ⟨v, hv, .lit v (List.all_eq_true.1 hl v (List.mem_of_getElem? hv))⟩⟩
theorem cellsOf_cells {v : Value} {l : List Value} (h : cellsOf v = some l) : v.cells.toList = l := by
  cases v <;> first | (cases h; rfl; done) | (cases h; done)

def o_load (ty : Ty) (h : Hp) (t : Nat) (x : Value) : Option Value :=
  match x with
  | .pointer (some a) => match isAg ty t with
    | some true => match size ty t with
      | some n => match ldA h a n with
        | some l => some (.agg l.toArray)
        | none => none
      | none => none
    | some false => match ldA h a 1 with
      | some [v] => some v
      | _ => none
    | none => none
  | _ => none
theorem o_load_run (T : TyOK P ty) (hh : HR sz w0 Φ R w h) {t : Nat} {x x' v : Value} (hx : VR R x x') (ho : o_load ty h t x = some v) : ∃ v', VR R v v' ∧ (Instr.loadAt t x').run P w = .ok v' w := by
  unfold o_load at ho
  split at ho
  · rename_i a
    obtain ⟨rfl, hs, hb⟩ := hx.ptr
    split at ho
    · rename_i hag
      cases hz : size ty t with
      | none => rw [hz] at ho; cases ho
      | some n =>
        rw [hz] at ho
        dsimp only at ho
        cases hl : ldA h a n with
        | none => rw [hl] at ho; cases ho
        | some l =>
          rw [hl] at ho
          cases ho
          obtain ⟨l', h1, h2, h3⟩ := ldA_is hh hs hl
          refine ⟨_, .inl (.inr ⟨l.toArray, l'.toArray, rfl, rfl, h1⟩), ?_⟩
          have := run_loadCells_list (P := P) w (ra R a) l' h3
          rw [h2] at this
          simp [Instr.loadAt, Instr.sureAddr, loadVar, isAg_is T w hag, size_is T w hz, this]
    · rename_i hag
      split at ho
      · rename_i u hl
        cases ho
        obtain ⟨l', h1, h2, h3⟩ := ldA_is hh hs hl
        obtain ⟨u', h4, h5⟩ := h1.2 0 _ rfl
        have h6 := h3 0 _ h4
        rw [ra_add, Nat.add_zero] at h6
        refine ⟨_, .inl (.inl h5), ?_⟩
        simp [Instr.loadAt, Instr.sureAddr, loadVar, isAg_is T w hag, h6]
        rw [show ra R a = ra R ⟨a.block, a.off, none⟩ from rfl, h6]
      · cases ho
    · cases ho
  · cases ho
theorem o_load_is (T : TyOK P ty) (hh : HR sz w0 Φ R w h) {t : Nat} {x x' v : Value} (hx : VR R x x') (ho : o_load ty h t x = some v) : Ok0 P R w v (Instr.loadAt t x') := by
  obtain ⟨v', h1, h2⟩ := o_load_run (P := P) T hh hx ho
  exact .same hh h1 h2
def o_store (ty : Ty) (h : Hp) (t : Nat) (x v : Value) : Option Hp :=
  match x, size ty t, cellsOf v with
  | .pointer (some a), some n, some l => bif Nat.beq l.length n then stA h a l else none
  | _, _, _ => none
theorem o_store_is (T : TyOK P ty) (hh : HR sz w0 Φ R w h) {t : Nat} {x x' v v' : Value} (hx : VR R x x') (hv : VR R v v') {h' : Hp} (ho : o_store ty h t x v = some h') :
    ∃ w', HR sz w0 Φ R w' h' ∧ (Instr.storeAt t x' v').run P w = .ok () w' := by
  unfold o_store at ho
  split at ho
  · rename_i a n l hz hc
    obtain ⟨rfl, hs, hb⟩ := hx.ptr
    cases hn : Nat.beq l.length n with
    | false => rw [hn] at ho; cases ho
    | true =>
      rw [hn] at ho
      have hc' := cellsOf_is hv hc
      obtain ⟨w', h1, h2⟩ := stA_is (P := P) hh hs hc' ho
      have hlen : v'.cells.size = n := by have := hc'.1; have := Nat.eq_of_beq_eq_true hn; simp at *; omega
      refine ⟨w', h1, ?_⟩
      simp [Instr.storeAt, Instr.sureAddr, storeVar, size_is T w hz, hlen, h2]
  · cases ho
def o_alloc (ty : Ty) (h : Hp) (e : Nat) : Option (Value × Hp) :=
  match zero ty e with
  | some z => match cellsOf z with
    | some l => bif l.all lit then match newA h (.row ⟨l, e, false⟩) with
        | some (i, h') => some (.pointer (some ⟨i, 0, none⟩), h')
        | none => none
      else none
    | none => none
  | none => none
theorem o_alloc_is (T : TyOK P ty) (hh : HR sz w0 Φ R w h) {e : Nat} {v : Value} {h' : Hp} (ho : o_alloc ty h e = some (v, h')) : Ok P sz w0 Φ R w h' v (Instr.alloc e true (.tuple #[])) := by
  unfold o_alloc at ho
  cases hz : zero ty e with
  | none => rw [hz] at ho; cases ho
  | some z =>
    rw [hz] at ho
    dsimp only at ho
    cases hc : cellsOf z with
    | none => rw [hc] at ho; cases ho
    | some l =>
      rw [hc] at ho
      dsimp only at ho
      cases hl : l.all lit with
      | false => rw [hl] at ho; cases ho
      | true =>
        rw [hl] at ho
        dsimp only [cond_true] at ho
        cases hn : newA h (.row ⟨l, e, false⟩) with
        | none => rw [hn] at ho; cases ho
        | some p =>
          obtain ⟨i, h1⟩ := p
          rw [hn] at ho
          cases ho
          have hcz := cellsOf_cells hc
          obtain ⟨R', h2, h3, h4, h5⟩ := newCell hh (cur := z.cells) (by rw [hcz]; exact A2.lits hl) hn
          refine ⟨R', _, _, h2, h3, ptr_new h3 h4 h5, ?_⟩
          simp [Instr.alloc, zero_is T w hz, newVar, newRow, ra, h5]
def o_box (h : Hp) (e : Nat) (x : Value) : Option (Value × Hp) :=
  match cellsOf x with
  | some l => match newA h (.row ⟨l, e, false⟩) with
    | some (i, h') => some (.pointer (some ⟨i, 0, none⟩), h')
    | none => none
  | none => none
theorem o_box_is (hh : HR sz w0 Φ R w h) {e : Nat} {x x' v : Value} (hx : VR R x x') {h' : Hp} (ho : o_box h e x = some (v, h')) : Ok P sz w0 Φ R w h' v (Instr.box e x') := by
  unfold o_box at ho
  cases hc : cellsOf x with
  | none => rw [hc] at ho; cases ho
  | some l =>
    rw [hc] at ho
    dsimp only at ho
    cases hn : newA h (.row ⟨l, e, false⟩) with
    | none => rw [hn] at ho; cases ho
    | some p =>
      obtain ⟨i, h1⟩ := p
      rw [hn] at ho
      cases ho
      obtain ⟨R', h2, h3, h4, h5⟩ := newCell hh (cur := x'.cells) (cellsOf_is hx hc) hn
      refine ⟨R', _, _, h2, h3, ptr_new h3 h4 h5, ?_⟩
      simp [Instr.box, newVar, newRow, ra, h5]
end
end Go.Ev
noncomputable section
namespace Go.Ev
open Go.RowKit
set_option linter.unusedVariables false
set_option linter.unusedSimpArgs false
section
variable {P : Program} {ty : Ty} {sz : Nat → Nat} {w0 : World} {Φ : Fx} {R : Rn} {w : World} {h : Hp}

theorem VR.slice {R : Rn} {b : Option Addr} {n c : Nat} {v : Value} (h : VR R (.slice b n c) v) : ∃ b' c', v = .slice b' n c' ∧ (∀ a, b = some a → n ≠ 0 → b' = some (ra R a) ∧ a.spot = none ∧ Nm R a.block) := by
  rcases h with (h | ⟨_, _, h, _⟩) | ⟨_, _, h, _⟩
  · cases h with
    | lit _ hl =>
      refine ⟨b, c, rfl, fun a ha => ?_⟩
      subst ha
      cases hl
    | sl a _ _ h0 hb hc => exact ⟨_, _, rfl, fun a' ha _ => by cases ha; exact ⟨rfl, h0, hb⟩⟩
    | slg a _ c' h0 hb hm hn hk => exact ⟨_, _, rfl, fun a' ha _ => by cases ha; exact ⟨rfl, h0, .inl hb⟩⟩
    | sle a c' => exact ⟨_, _, rfl, fun a' ha hn => absurd rfl hn⟩
  · cases h
  · cases h

def o_indexAddr (ty : Ty) (t : Nat) (x ix : Value) : Option Value :=
  match ix with
  | .int _ (.ofNat i) => match x, desc ty t with
    | .slice (some a) n _, some (.slice e) => match size ty e with
      | some s => bif Nat.blt i n then some (.pointer (some ⟨a.block, a.off + i * s, none⟩)) else none
      | none => none
    | .pointer (some a), some (.array n e) => match size ty e with
      | some s => bif Nat.blt i n then some (.pointer (some ⟨a.block, a.off + i * s, none⟩)) else none
      | none => none
    | _, _ => none
  | _ => none
theorem o_indexAddr_is (T : TyOK P ty) (hh : HR sz w0 Φ R w h) {t : Nat} {x x' ix ix' v : Value} (hx : VR R x x') (hi : VR R ix ix') (ho : o_indexAddr ty t x ix = some v) : Ok0 P R w v (Instr.indexAt t x' ix') := by
  unfold o_indexAddr at ho
  split at ho
  · rename_i k i
    rw [hi.int]
    split at ho
    · rename_i a n c e hd
      have hu := desc_is T hd
      cases hz : size ty e with
      | none => rw [hz] at ho; cases ho
      | some s =>
        rw [hz] at ho
        dsimp only at ho
        cases hn : Nat.blt i n with
        | false => rw [hn] at ho; cases ho
        | true =>
          rw [hn] at ho
          cases ho
          have hlt : i < n := by simpa [Nat.blt_eq] using hn
          obtain ⟨b', c', rfl, hb⟩ := hx.slice
          obtain ⟨rfl, h0, hbN⟩ := hb a rfl (by omega)
          refine .same hh (.inl (.inl (.ptr ⟨a.block, a.off + i * s, none⟩ rfl hbN))) ?_
          simp [Instr.indexAt, run_underlying hu, asIntOf, size_is T w hz, ra_add, hlt]
    · rename_i a n e hd
      have hu := desc_is T hd
      cases hz : size ty e with
      | none => rw [hz] at ho; cases ho
      | some s =>
        rw [hz] at ho
        dsimp only at ho
        cases hn : Nat.blt i n with
        | false => rw [hn] at ho; cases ho
        | true =>
          rw [hn] at ho
          cases ho
          have hlt : i < n := by simpa [Nat.blt_eq] using hn
          obtain ⟨rfl, h0, hbN⟩ := hx.ptr
          refine .same hh (.inl (.inl (.ptr ⟨a.block, a.off + i * s, none⟩ rfl hbN))) ?_
          simp [Instr.indexAt, run_underlying hu, asIntOf, size_is T w hz, ra_add, hlt, Instr.sureAddr]
    · cases ho
  · cases ho
def o_index (ty : Ty) (t : Nat) (x ix : Value) : Option Value :=
  match ix with
  | .int _ (.ofNat i) => match x, desc ty t with
    | .string s, some .string => match s.data.toList[i]? with
      | some b => some (.int .u8 b.toNat)
      | none => none
    | _, _ => none
  | _ => none
theorem o_index_is (T : TyOK P ty) (hh : HR sz w0 Φ R w h) {t : Nat} {x x' ix ix' v : Value} (hx : VR R x x') (hi : VR R ix ix') (ho : o_index ty t x ix = some v) : Ok0 P R w v (Instr.index t x' ix') := by
  unfold o_index at ho
  split at ho
  · rename_i k i
    rw [hi.int]
    split at ho
    · rename_i s hd
      have hu := desc_is T hd
      rw [hx.str]
      split at ho
      · rename_i b hb
        cases ho
        rw [Array.getElem?_toList] at hb
        have hb' : s[i]? = some b := by
          have hlt := (Array.getElem?_eq_some_iff.1 hb).1
          have hv := (Array.getElem?_eq_some_iff.1 hb).2
          rw [getElem?_pos s i hlt]
          exact congrArg some hv
        refine .same hh (.lit rfl) ?_
        simp [Instr.index, run_underlying hu, asIntOf, hb']
      · cases ho
    · cases ho
  · cases ho
def fldAt (ty : Ty) (t : Nat) (cs : List Value) (off : Nat) : Option Value :=
  match isAg ty t with
  | some true => match size ty t with
    | some n => some (.agg ((cs.drop off).take n).toArray)
    | none => none
  | some false => cs[off]?
  | none => none
def o_field (ty : Ty) (s : Nat) (x : Value) (f : Nat) : Option Value :=
  match x, fld ty s f with
  | .agg cs, some g => fldAt ty g.type cs.toList g.offset
  | _, _ => none
theorem VR.agg {R : Rn} {cs : Array Value} {v : Value} (h : VR R (.agg cs) v) : ∃ cs', v = .agg cs' ∧ A2 (SR R) cs.toList cs'.toList := by
  rcases h with (h | ⟨_, cs', h, h2, h3⟩) | ⟨_, _, h, _⟩
  · cases h with
    | lit _ hl => cases hl
  · cases h; exact ⟨cs', h2, h3⟩
  · cases h
theorem A2.cut {r : Value → Value → Prop} {l l' : List Value} (h : A2 r l l') (o n : Nat) : A2 r ((l.drop o).take n) ((l'.drop o).take n) :=
  ⟨by simp [h.1], fun i v hv => by
    have hlt : i < n := by have := (List.getElem?_eq_some_iff.1 hv).1; simp at this; omega
    rw [List.getElem?_take, if_pos hlt, List.getElem?_drop] at hv ⊢
    exact h.2 _ v hv⟩
theorem fldAt_is (T : TyOK P ty) (w : World) {t : Nat} {cs : List Value} {cs' : Array Value} {off : Nat} {v : Value} (hcs : A2 (SR R) cs cs'.toList) (ho : fldAt ty t cs off = some v) : ∃ v', VR R v v' ∧ (part t cs' off).run P w = .ok v' w := by
  unfold fldAt at ho
  split at ho
  · rename_i hag
    cases hz : size ty t with
    | none => rw [hz] at ho; cases ho
    | some n =>
      rw [hz] at ho
      cases ho
      refine ⟨_, .inl (.inr ⟨_, ((cs'.toList.drop off).take n).toArray, rfl, rfl, hcs.cut _ _⟩), ?_⟩
      simp [part, isAg_is T w hag, size_is T w hz]
      apply Array.ext'
      simp [List.drop_take]
  · rename_i hag
    obtain ⟨v', h1, h2⟩ := hcs.2 _ v ho
    rw [Array.getElem?_toList] at h1
    refine ⟨v', .inl (.inl h2), ?_⟩
    simp [part, isAg_is T w hag, h1]
  · cases ho
theorem o_field_is (T : TyOK P ty) (hh : HR sz w0 Φ R w h) {s : Nat} {x x' v : Value} {f : Nat} (hx : VR R x x') (ho : o_field ty s x f = some v) : Ok0 P R w v (Instr.field s x' f) := by
  unfold o_field at ho
  split at ho
  · rename_i cs g hg
    obtain ⟨cs', rfl, hcs⟩ := hx.agg
    unfold fld at hg
    split at hg
    · rename_i fs hd
      have hu := desc_is T hd
      rw [Array.getElem?_toList] at hg
      obtain ⟨v', h1, h2⟩ := fldAt_is (P := P) T w hcs ho
      refine .same hh h1 ?_
      simp [Instr.field, run_underlying hu, hg, asAgg, h2]
    · cases hg
  · cases ho
def o_len (ty : Ty) (t : Nat) (x : Value) : Option Value :=
  match x, desc ty t with
  | .slice _ n _, some (.slice _) => some (goInt n)
  | .string s, some .string => some (goInt s.data.toList.length)
  | _, _ => none
theorem o_len_is (T : TyOK P ty) (hh : HR sz w0 Φ R w h) {t u : Nat} {x x' v : Value} (hx : VR R x x') (ho : o_len ty t x = some v) : Ok0 P R w v (Builtin.len_ #[t] u #[x']) := by
  unfold o_len at ho
  split at ho
  · rename_i n _ e hd
    cases ho
    obtain ⟨b', c', rfl, _⟩ := hx.slice
    refine .same hh (.lit rfl) ?_
    simp [Builtin.len_, run_underlying (desc_is T hd)]
  · rename_i s hd
    cases ho
    rw [hx.str]
    refine .same hh (.lit rfl) ?_
    simp [Builtin.len_, run_underlying (desc_is T hd)]
  · cases ho
def o_un (op : UnOp) (x : Value) : Option Value :=
  bif lit x then match Op.unary op x with
    | .pure v => bif lit v then some v else none
    | _ => none
  else none
theorem VR.of_lit {R : Rn} {v v' : Value} (h : VR R v v') (hl : Go.Ev.lit v = true) (hn : v ≠ .slice none 0 0) : v' = v := by
  rcases h with (h | ⟨_, _, rfl, _⟩) | ⟨_, _, rfl, _⟩
  · cases h with
    | lit _ _ => rfl
    | ptr _ _ _ => cases hl
    | sl _ _ _ _ _ _ => cases hl
    | slg _ _ _ _ _ _ _ _ => cases hl
    | sle _ _ => cases hl
    | mp _ _ => cases hl
    | yl _ _ => cases hl
    | fn _ _ _ f' c' h1 h2 =>
      have hl2 : (Array.isEmpty _ && Array.isEmpty _) = true := hl
      rw [Bool.and_eq_true, Array.isEmpty_iff, Array.isEmpty_iff] at hl2
      obtain ⟨rfl, rfl⟩ := hl2
      have e1 : f' = #[] := Array.eq_empty_of_size_eq_zero (by have := h1.1; simpa using this.symm)
      have e2 : c' = #[] := Array.eq_empty_of_size_eq_zero (by have := h2.1; simpa using this.symm)
      rw [e1, e2]
  · cases hl
  · cases hl
theorem o_un_is (hh : HR sz w0 Φ R w h) {op : UnOp} {x x' v : Value} (hx : VR R x x') (ho : o_un op x = some v) : Ok0 P R w v (Op.unary op x') := by
  unfold o_un at ho
  cases hl : lit x with
  | false => rw [hl] at ho; cases ho
  | true =>
    rw [hl] at ho
    dsimp only [cond_true] at ho
    split at ho
    · rename_i u hu
      cases hlu : lit u with
      | false => rw [hlu] at ho; cases ho
      | true =>
        rw [hlu] at ho
        cases ho
        have e : x' = x := hx.of_lit hl (fun e => by subst e; cases op <;> cases hu)
        rw [e, hu]
        exact .same hh (.lit hlu) rfl
    · cases ho
def o_conv (ty : Ty) (s d : Nat) (x : Value) : Option Value :=
  match x, desc ty s, desc ty d with
  | .int _ n, some _, some (.int k) => some (.int k (k.wrap n))
  | .int _ n, some _, some (.float k) => some (.float k (k.nearest n))
  | .float s b, some _, some (.int k) => match Conv.floatToInt s b k with
    | .pure v => bif lit v then some v else none
    | _ => none
  | .float s b, some _, some (.float k) => match Conv.floatToFloat s b k with
    | .pure v => bif lit v then some v else none
    | _ => none
  | .string b, some (.string), some .string => some (.string b)
  | _, _, _ => none
theorem o_conv_is (T : TyOK P ty) (hh : HR sz w0 Φ R w h) {s d : Nat} {x x' v : Value} (hx : VR R x x') (ho : o_conv ty s d x = some v) : Ok0 P R w v (convert s d x') := by
  unfold o_conv at ho
  split at ho
  · rename_i k n ds k' hs hd
    cases ho
    rw [hx.int]
    refine .same hh (.lit rfl) ?_
    simp [convert, run_underlying (desc_is T hs), run_underlying (desc_is T hd), Conv.intToInt]
  · rename_i k n ds k' hs hd
    cases ho
    rw [hx.int]
    refine .same hh (.lit rfl) ?_
    simp [convert, run_underlying (desc_is T hs), run_underlying (desc_is T hd), Conv.intToFloat]
  · rename_i k b ds k' hs hd
    rw [hx.flt]
    split at ho
    · rename_i u hu
      cases hl : lit u with
      | false => rw [hl] at ho; cases ho
      | true =>
        rw [hl] at ho
        cases ho
        refine .same hh (.lit hl) ?_
        simp only [convert, Sem.run_bind, run_underlying (desc_is T hs), run_underlying (desc_is T hd), Result.andThen_ok]
        rw [hu]
        rfl
    · cases ho
  · rename_i k b ds k' hs hd
    rw [hx.flt]
    split at ho
    · rename_i u hu
      cases hl : lit u with
      | false => rw [hl] at ho; cases ho
      | true =>
        rw [hl] at ho
        cases ho
        refine .same hh (.lit hl) ?_
        simp only [convert, Sem.run_bind, run_underlying (desc_is T hs), run_underlying (desc_is T hd), Result.andThen_ok]
        rw [hu]
        rfl
    · cases ho
  · rename_i b hs hd
    cases ho
    rw [hx.str]
    refine .same hh (.lit rfl) ?_
    simp [convert, run_underlying (desc_is T hs), run_underlying (desc_is T hd)]
  · cases ho
def o_extract (x : Value) (i : Nat) : Option Value :=
  match x with
  | .tuple vs => vs.toList[i]?
  | _ => none
theorem o_extract_is (hh : HR sz w0 Φ R w h) {x x' v : Value} {i : Nat} (hx : VR R x x') (ho : o_extract x i = some v) : Ok0 P R w v (Instr.extract x' i) := by
  unfold o_extract at ho
  split at ho
  · rename_i vs
    rcases hx with (hx | ⟨_, _, hx, _⟩) | ⟨_, vs', h1, rfl, h3⟩
    · cases hx with
      | lit _ hl => cases hl
    · cases hx
    · cases h1
      obtain ⟨v', h4, h5⟩ := h3.2 i v ho
      rw [Array.getElem?_toList] at h4
      refine .same hh (.inl h5) ?_
      simp [Instr.extract, h4]
  · cases ho
end
end Go.Ev
