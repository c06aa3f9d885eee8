/- Values and heaps over names, and the true ones. -/
import Derived.Test.YtlchefdddgbohaaDoorEvT
import GoSem.Core.Code
import GoSem.Core.View
import Derived.Below
import Derived.Calls
import Derived.Laws.AppendOwn
noncomputable section
namespace Go.Ev
open Go.RowKit
set_option linter.unusedVariables false

structure Blk where
  cells : List Value
  elem : Nat
  grow : Bool
/-- what a name stands for: cells, a map, the place of deferred calls, a range over a function -/
inductive Ob where
  | row (b : Blk)
  | map (es : List (Value × Value × Nat)) (clock : Nat)
  | defd
  | loop (st : LoopState) (pend : Option Code) (fr : Tr Value) (nt : Nat) (ps : Array Tmp) (as bd : Code)
  | iter (m : Option Nat) (since : Nat) (seen : List Nat) (last : Nat)
structure Hp where
  heap : Tr Ob
  next : Nat
  tab : Tr (List Value)
/-- 'as much as there is' -/
def many : Nat := 36893488147419103232

/-- which block a name is, how many elements it has room for, which names are given, and how many there are -/
structure Rn where
  ρ : Nat → Nat
  κ : Nat → Nat
  D : Nat → Prop
  N : Nat
/-- names above 'many' are the blocks of tables themselves -/
def rb (R : Rn) (i : Nat) : Nat := if many < i then i - (many + 1) else R.ρ i
def Nm (R : Rn) (i : Nat) : Prop := R.D i ∨ many < i
def ra (R : Rn) (a : Addr) : Addr := ⟨rb R a.block, a.off, none⟩
def lit : Value → Bool
  | .bool _ | .int _ _ | .float _ _ | .complex _ _ _ | .string _ | .pointer none | .nilFunc | .nilIface => true
  | .slice none 0 0 => true
  | .func (.func _) f c => f.isEmpty && c.isEmpty
  | .map none => true
  | _ => false
/-- the same, one by one -/
def A2 (r : Value → Value → Prop) (l m : List Value) : Prop := l.length = m.length ∧ ∀ (i : Nat) (v : Value), l[i]? = some v → ∃ v', m[i]? = some v' ∧ r v v'
inductive BR (R : Rn) : Value → Value → Prop
  | lit (v : Value) : lit v = true → BR R v v
  | ptr (a : Addr) : a.spot = none → Nm R a.block → BR R (.pointer (some a)) (.pointer (some (ra R a)))
  | sl (a : Addr) (n c : Nat) : a.spot = none → Nm R a.block → c < many → BR R (.slice (some a) n c) (.slice (some (ra R a)) n c)
  | slg (a : Addr) (n c : Nat) : a.spot = none → R.D a.block → a.block < many → n ≤ c → (a.off = 0 → c = R.κ a.block) → BR R (.slice (some a) n many) (.slice (some (ra R a)) n c)
  | sle (a : Option Addr) (c : Nat) : BR R (.slice (some ⟨many, 0, none⟩) 0 many) (.slice a 0 c)
  | mp (i : Nat) : R.D i → BR R (.map (some i)) (.map (some (R.ρ i)))
  | yl (i : Nat) : R.D i → BR R (.func (.yield i) #[] #[]) (.func (.yield (R.ρ i)) #[] #[])
inductive SR (R : Rn) : Value → Value → Prop
  | lit (v : Value) : lit v = true → SR R v v
  | ptr (a : Addr) : a.spot = none → Nm R a.block → SR R (.pointer (some a)) (.pointer (some (ra R a)))
  | sl (a : Addr) (n c : Nat) : a.spot = none → Nm R a.block → c < many → SR R (.slice (some a) n c) (.slice (some (ra R a)) n c)
  | slg (a : Addr) (n c : Nat) : a.spot = none → R.D a.block → a.block < many → n ≤ c → (a.off = 0 → c = R.κ a.block) → SR R (.slice (some a) n many) (.slice (some (ra R a)) n c)
  | sle (a : Option Addr) (c : Nat) : SR R (.slice (some ⟨many, 0, none⟩) 0 many) (.slice a 0 c)
  | mp (i : Nat) : R.D i → SR R (.map (some i)) (.map (some (R.ρ i)))
  | yl (i : Nat) : R.D i → SR R (.func (.yield i) #[] #[]) (.func (.yield (R.ρ i)) #[] #[])
  | fn (g : Nat) (f c f' c' : Array Value) : A2 (BR R) f.toList f'.toList → A2 (BR R) c.toList c'.toList → SR R (.func (.func g) f c) (.func (.func g) f' c')
theorem BR.sr {R : Rn} {v v' : Value} (h : BR R v v') : SR R v v' := by
  cases h with
  | lit v h => exact .lit v h
  | ptr a h k => exact .ptr a h k
  | sl a n c h k l => exact .sl a n c h k l
  | slg a n c h k l m o => exact .slg a n c h k l m o
  | sle a c => exact .sle a c
  | mp i h => exact .mp i h
  | yl i h => exact .yl i h
def VR0 (R : Rn) (v v' : Value) : Prop := SR R v v' ∨ ∃ cs cs' : Array Value, v = .agg cs ∧ v' = .agg cs' ∧ A2 (SR R) cs.toList cs'.toList
def VR (R : Rn) (v v' : Value) : Prop := VR0 R v v' ∨ ∃ vs vs' : Array Value, v = .tuple vs ∧ v' = .tuple vs' ∧ A2 (VR0 R) vs.toList vs'.toList
/-- more names -/
structure Ext0 (R R' : Rn) : Prop where
  le : R.N ≤ R'.N
  D : ∀ i, R.D i → R'.D i
  ρ : ∀ i, R.D i → R'.ρ i = R.ρ i
  κ : ∀ i, R.D i → R'.κ i = R.κ i
/-- and the new ones are new -/
structure Ext (R R' : Rn) : Prop extends Ext0 R R' where
  nw : ∀ i, R'.D i → i < R.N → R.D i
theorem Ext.weak {R R' : Rn} (h : Ext R R') : Ext0 R R' := h.toExt0
instance (R R' : Rn) : Coe (Ext R R') (Ext0 R R') := ⟨Ext.weak⟩
theorem Ext0.trans {A B C : Rn} (h : Ext0 A B) (k : Ext0 B C) : Ext0 A C :=
  ⟨Nat.le_trans h.le k.le, fun i hi => k.D i (h.D i hi), fun i hi => (k.ρ i (h.D i hi)).trans (h.ρ i hi), fun i hi => (k.κ i (h.D i hi)).trans (h.κ i hi)⟩
theorem Ext.refl (R : Rn) : Ext R R := ⟨⟨Nat.le_refl _, fun _ h => h, fun _ _ => rfl, fun _ _ => rfl⟩, fun _ h _ => h⟩
theorem Ext.trans {A B C : Rn} (h : Ext A B) (k : Ext B C) : Ext A C :=
  ⟨h.toExt0.trans k.toExt0, fun i hi hl => h.nw i (k.nw i hi (Nat.lt_of_lt_of_le hl h.le)) hl⟩
theorem Nm.ext {R R' : Rn} (h : Ext0 R R') {i : Nat} (hi : Nm R i) : Nm R' i := hi.imp (h.D i) id
theorem rb_ext {R R' : Rn} (h : Ext0 R R') {i : Nat} (hi : Nm R i) : rb R' i = rb R i := by
  unfold rb
  split
  · rfl
  · rename_i hn
    rcases hi with hi | hi
    · exact h.ρ i hi
    · exact absurd hi hn
theorem ra_ext {R R' : Rn} (h : Ext0 R R') {a : Addr} (ha : Nm R a.block) : ra R' a = ra R a := by
  unfold ra
  rw [rb_ext h ha]
theorem A2.mono {r r' : Value → Value → Prop} {l m : List Value} (h : A2 r l m) (hr : ∀ v v', r v v' → r' v v') : A2 r' l m :=
  ⟨h.1, fun i v hv => by obtain ⟨v', h1, h2⟩ := h.2 i v hv; exact ⟨v', h1, hr _ _ h2⟩⟩
theorem BR.ext {R R' : Rn} {v v' : Value} (h : BR R v v') (e : Ext0 R R') : BR R' v v' := by
  cases h with
  | lit v hl => exact .lit v hl
  | ptr a h0 ha => rw [← ra_ext e ha]; exact .ptr a h0 (ha.ext e)
  | sl a n c h0 ha hc => rw [← ra_ext e ha]; exact .sl a n c h0 (ha.ext e) hc
  | slg a n c h0 ha hm hn hk => rw [← ra_ext e (.inl ha)]; exact .slg a n c h0 (e.D _ ha) hm hn (fun h0 => (hk h0).trans (e.κ _ ha).symm)
  | sle a c => exact .sle a c
  | mp i h => rw [← e.ρ i h]; exact .mp i (e.D i h)
  | yl i h => rw [← e.ρ i h]; exact .yl i (e.D i h)
theorem SR.ext {R R' : Rn} {v v' : Value} (h : SR R v v') (e : Ext0 R R') : SR R' v v' := by
  cases h with
  | lit v hl => exact .lit v hl
  | ptr a h0 ha => exact (BR.ext (.ptr a h0 ha) e).sr
  | sl a n c h0 ha hc => exact (BR.ext (.sl a n c h0 ha hc) e).sr
  | slg a n c h0 ha hm hn hk => exact (BR.ext (.slg a n c h0 ha hm hn hk) e).sr
  | sle a c => exact .sle a c
  | mp i h => exact (BR.ext (.mp i h) e).sr
  | yl i h => exact (BR.ext (.yl i h) e).sr
  | fn g f c f' c' h1 h2 => exact .fn g f c f' c' (h1.mono fun _ _ h => h.ext e) (h2.mono fun _ _ h => h.ext e)
def base : Value → Bool
  | .func (.func _) f c => f.isEmpty && c.isEmpty
  | _ => true
theorem SR.br {R : Rn} {v v' : Value} (h : SR R v v') (hb : base v = true) : BR R v v' := by
  cases h with
  | lit v hl => exact .lit v hl
  | ptr a h0 ha => exact .ptr a h0 ha
  | sl a n c h0 ha hc => exact .sl a n c h0 ha hc
  | slg a n c h0 ha hm hn hk => exact .slg a n c h0 ha hm hn hk
  | sle a c => exact .sle a c
  | mp i h => exact .mp i h
  | yl i h => exact .yl i h
  | fn g f c f' c' h1 h2 =>
    unfold base at hb
    rw [Bool.and_eq_true, Array.isEmpty_iff, Array.isEmpty_iff] at hb
    obtain ⟨rfl, rfl⟩ := hb
    have e1 : f' = #[] := by
      have := h1.1
      simp at this
      exact Array.eq_empty_of_size_eq_zero this.symm
    have e2 : c' = #[] := by
      have := h2.1
      simp at this
      exact Array.eq_empty_of_size_eq_zero this.symm
    subst e1
    subst e2
    exact .lit _ rfl
theorem VR0.ext {R R' : Rn} {v v' : Value} (h : VR0 R v v') (e : Ext0 R R') : VR0 R' v v' := by
  rcases h with h | ⟨cs, cs', h1, h2, h3⟩
  · exact .inl (h.ext e)
  · exact .inr ⟨cs, cs', h1, h2, h3.mono fun _ _ h => h.ext e⟩
theorem VR.ext {R R' : Rn} {v v' : Value} (h : VR R v v') (e : Ext0 R R') : VR R' v v' := by
  rcases h with h | ⟨cs, cs', h1, h2, h3⟩
  · exact .inl (h.ext e)
  · exact .inr ⟨cs, cs', h1, h2, h3.mono fun _ _ h => h.ext e⟩
theorem VR.lit {R : Rn} {v : Value} (h : lit v = true) : VR R v v := .inl (.inl (.lit v h))
theorem VR.undef {R : Rn} : VR R (.tuple #[]) (.tuple #[]) := .inr ⟨#[], #[], rfl, rfl, rfl, fun i v h => by simp at h⟩

/-- a frame: its variables, and where its ranges over functions keep deferred calls ('none': it is a round's) -/
structure Fr where
  t : Tr Value
  ms : Option (List Nat)
def Fr.get (fr : Fr) (k : Nat) : Option Value := fr.t.get k
def Fr.put (fr : Fr) (n k : Nat) (v : Value) : Fr := ⟨fr.t.put n k v, fr.ms⟩
/-- variables -/
def TR (R : Rn) (t : Tr Value) (tmps : Array Value) : Prop := ∀ k v, t.get k = some v → ∃ v', tmps[k]? = some v' ∧ VR R v v'
def marks (R : Rn) (ms : Option (List Nat)) : List Deferred := (ms.getD []).map fun i => { target := .collected (R.ρ i), args := #[] }
def MK (R : Rn) (rd : Option Nat) (ms : Option (List Nat)) (ds : List Deferred) : Prop := ds = marks R ms ∧ (∀ i ∈ ms.getD [], R.D i) ∧ (ms.isSome = true → rd = none)
def FR (R : Rn) (rd : Option Nat) (nt : Nat) (fr : Fr) (a : Act) : Prop := nt ≤ a.tmps.size ∧ nt < 549755813888 ∧ MK R rd fr.ms a.defers ∧ ∀ t v, fr.get t = some v → ∃ v', a.tmps[t]? = some v' ∧ VR R v v'
theorem marks_ext {R R' : Rn} (e : Ext0 R R') {ms : Option (List Nat)} (h : ∀ i ∈ ms.getD [], R.D i) : marks R' ms = marks R ms := by
  unfold marks
  exact List.map_congr_left fun i hi => by rw [e.ρ i (h i hi)]
theorem MK.ext {R R' : Rn} {rd : Option Nat} {ms : Option (List Nat)} {ds : List Deferred} (h : MK R rd ms ds) (e : Ext0 R R') : MK R' rd ms ds :=
  ⟨h.1.trans (marks_ext e h.2.1).symm, fun i hi => e.D i (h.2.1 i hi), h.2.2⟩
theorem FR.ext {R R' : Rn} {rd : Option Nat} {nt : Nat} {fr : Fr} {a : Act} (h : FR R rd nt fr a) (e : Ext0 R R') : FR R' rd nt fr a :=
  ⟨h.1, h.2.1, h.2.2.1.ext e, fun t v ht => by obtain ⟨v', h1, h2⟩ := h.2.2.2 t v ht; exact ⟨v', h1, h2.ext e⟩⟩
theorem FR.put {R : Rn} {rd : Option Nat} {nt : Nat} {fr : Fr} {a : Act} (h : FR R rd nt fr a) {d : Nat} (hd : d < nt) {v v' : Value} (hv : VR R v v') : FR R rd nt (fr.put 40 d v) (a.put (some d) v') := by
  refine ⟨by simpa [Act.put] using h.1, h.2.1, h.2.2.1, fun t x hx => ?_⟩
  change (fr.t.put 40 d v).get t = some x at hx
  rw [Tr.get_put 40 fr.t d v t (by have := h.2.1; omega)] at hx
  by_cases e : t = d
  · subst e
    rw [if_pos rfl] at hx
    cases hx
    exact ⟨v', Array.getElem?_setIfInBounds_self_of_lt (Nat.lt_of_lt_of_le hd h.1), hv⟩
  · rw [if_neg e] at hx
    obtain ⟨x', h1, h2⟩ := h.2.2.2 t x hx
    refine ⟨x', ?_, h2⟩
    simp only [Act.put]
    rw [Array.getElem?_setIfInBounds_ne (fun e' => e e'.symm)]
    exact h1

/-- what is kept: blocks, and the tables -/
structure Fx where
  blk : Nat → Prop
  tab : Tr (List Value)
instance : CoeFun Fx fun _ => Nat → Prop := ⟨Fx.blk⟩
/-- what stays as it was: the blocks of Φ -/
structure Stay (Φ : Fx) (w w' : World) : Prop where
  os : w'.os = w.os
  tape : w'.tape = w.tape
  output : w'.output = w.output
  size : w.heap.size ≤ w'.heap.size
  block : ∀ k, Φ k → w'.heap[k]? = w.heap[k]?
theorem Stay.refl (Φ : Fx) (w : World) : Stay Φ w w := ⟨rfl, rfl, rfl, Nat.le_refl _, fun _ _ => rfl⟩
theorem Stay.trans {Φ : Fx} {a b c : World} (h : Stay Φ a b) (k : Stay Φ b c) : Stay Φ a c :=
  ⟨k.os.trans h.os, k.tape.trans h.tape, k.output.trans h.output, Nat.le_trans h.size k.size, fun i hi => (k.block i hi).trans (h.block i hi)⟩
theorem Stay.mono {Φ Ψ : Fx} {a b : World} (h : Stay Φ a b) (hp : ∀ k, Ψ k → Φ k) : Stay Ψ a b :=
  ⟨h.os, h.tape, h.output, h.size, fun k hk => h.block k (hp k hk)⟩
/-- entries of a map -/
inductive ER (R : Rn) : List (Value × Value × Nat) → List MapEntry → Prop
  | nil : ER R [] []
  | cons (k v v' : Value) (n : Nat) (l : List (Value × Value × Nat)) (l' : List MapEntry) : VR0 R v v' → ER R l l' → ER R ((k, v, n) :: l) (⟨k, v', n⟩ :: l')
theorem ER.ext {R R' : Rn} (e : Ext0 R R') {l : List (Value × Value × Nat)} {l' : List MapEntry} (h : ER R l l') : ER R' l l' := by
  induction h with
  | nil => exact .nil
  | cons k v v' n l l' hv _ ih => exact .cons k v v' n l l' (hv.ext e) ih
/-- what a name stands for, and what lies there -/
def RowR (sz : Nat → Nat) (R : Rn) (i : Nat) (b : Blk) (cur : Array Value) : Prop :=
  (∀ (j : Nat) (v : Value), b.cells[j]? = some v → ∃ v', cur[j]? = some v' ∧ SR R v v') ∧ (b.grow = false → cur.size = b.cells.length) ∧ (b.grow = true → R.κ i ≤ maxLen ∧ cur.size = R.κ i * sz b.elem)
def OR (sz : Nat → Nat) (R : Rn) (i : Nat) : Ob → Obj → Prop
  | .row b, o => ∃ cur, o = .cells cur b.elem (0, 0) ∧ RowR sz R i b cur
  | .map es ck, o => ∃ es', o = .map es' ck ∧ ER R es es'.toList
  | .defd, o => o = .deferred (some [])
  | .iter m since seen last, o => o = .mapIter (m.map R.ρ) since seen.toArray last ∧ ∀ i, m = some i → R.D i
  | .loop st pend fr nt ps as bd, o => ∃ l : Loop, o = .loop l ∧ l.state = st ∧ l.pending = pend ∧ l.params = ps ∧ l.assign = as ∧ l.body = bd ∧ nt ≤ l.tmps.size ∧ nt < 549755813888 ∧ TR R fr l.tmps
theorem OR.ext {sz : Nat → Nat} {R R' : Rn} (e : Ext0 R R') {i : Nat} (hi : R.D i) {b : Ob} {o : Obj} (h : OR sz R i b o) : OR sz R' i b o := by
  cases b with
  | row b =>
    obtain ⟨cur, h1, h2, h3, h4⟩ := h
    refine ⟨cur, h1, fun j v hv => ?_, h3, fun hg => ?_⟩
    · obtain ⟨v', h5, h6⟩ := h2 j v hv
      exact ⟨v', h5, h6.ext e⟩
    · rw [e.κ i hi]; exact h4 hg
  | map es ck =>
    obtain ⟨es', h1, h2⟩ := h
    exact ⟨es', h1, h2.ext e⟩
  | defd => exact h
  | iter m since seen last =>
    obtain ⟨h1, h2⟩ := h
    refine ⟨?_, fun i hi => e.D i (h2 i hi)⟩
    rw [h1]
    cases m with
    | none => rfl
    | some i => simp [e.ρ i (h2 i rfl)]
  | loop st pend fr nt ps as bd =>
    obtain ⟨l, h1, h2, h3, h4, h5, h6, h7, h8, h9⟩ := h
    refine ⟨l, h1, h2, h3, h4, h5, h6, h7, h8, fun k v hv => ?_⟩
    obtain ⟨v', h10, h11⟩ := h9 k v hv
    exact ⟨v', h10, h11.ext e⟩
/-- a heap -/
structure HR (sz : Nat → Nat) (w0 : World) (Φ : Fx) (R : Rn) (w : World) (h : Hp) : Prop where
  nx : h.next = R.N
  small : R.N < 549755813888
  bel : Stay Φ w0 w
  frm : ∀ k, Φ k → k < w0.heap.size
  dom : ∀ i, R.D i → i < R.N
  blk : ∀ i b, h.heap.get i = some b → R.D i ∧ ¬ Φ (R.ρ i) ∧ ∃ o, w.heap[R.ρ i]? = some o ∧ OR sz R i b o
  inj : ∀ i j b c, h.heap.get i = some b → h.heap.get j = some c → R.ρ i = R.ρ j → i = j
  tabE : h.tab = Φ.tab
  tab : ∀ g l, h.tab.get g = some l → Φ g ∧ ∃ cur e z, w.heap[g]? = some (.cells cur e z) ∧ A2 (SR R) l cur.toList
/-- operands -/
def ev1 (fr : Fr) : Operand → Option Value
  | .tmp t => fr.get t
  | .const v => bif lit v then some v else none
  | .global g => some (.pointer (some ⟨many + 1 + g, 0, none⟩))
  | .func f => some (.func (.func f) #[] #[])
theorem ev1_is {R : Rn} {rd : Option Nat} {nt : Nat} {fr : Fr} {a : Act} (h : FR R rd nt fr a) {x : Operand} {v : Value} (hx : ev1 fr x = some v) : ∃ v', a.eval x = v' ∧ VR R v v' := by
  cases x with
  | tmp t =>
    obtain ⟨v', h1, h2⟩ := h.2.2.2 t v hx
    exact ⟨v', by simp [Act.eval, h1], h2⟩
  | const c =>
    change (bif lit c then some c else none) = some v at hx
    cases hl : lit c with
    | true => rw [hl] at hx; cases hx; exact ⟨_, rfl, VR.lit hl⟩
    | false => rw [hl] at hx; cases hx
  | global g =>
    cases hx
    refine ⟨_, rfl, .inl (.inl ?_)⟩
    have := SR.ptr (R := R) ⟨many + 1 + g, 0, none⟩ rfl (.inr (by show many < many + 1 + g; omega))
    have e : ra R ⟨many + 1 + g, 0, none⟩ = ⟨g, 0, none⟩ := by
      unfold ra rb
      rw [if_pos (by show many < many + 1 + g; omega), Nat.add_sub_cancel_left]
    rw [e] at this
    exact this
  | func f => cases hx; exact ⟨_, rfl, VR.lit rfl⟩
end Go.Ev
