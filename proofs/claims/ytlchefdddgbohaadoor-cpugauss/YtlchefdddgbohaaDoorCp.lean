/- A Cpu in memory. -/
import Derived.Test.YtlchefdddgbohaaDoorBase
import Derived.Laws.AppendOwn
import Derived.Deep.DeepAppendWide
import Derived.Lib.SmallJoins
namespace Go.Proofs.YtlchefdddgbohaaDoor
open Go.ChangeShapes Go.WideShapes Go.ChangeAt Go.RowKit
set_option linter.unusedVariables false
set_option linter.unusedSimpArgs false
set_option maxRecDepth 100000

theorem wblk_lt {w : World} {g : Nat} {x : Obj} (h : w.heap[g]? = some x) : g < w.heap.size := (Array.getElem?_eq_some_iff.1 h).1
theorem row_set {w : World} {g : Nat} {T : TypeId} {cur : Array Value} (h : w.heap[g]? = some (.cells cur T (0, 0))) (j : Nat) (y : Value) :
    (w.setCell ⟨g, j, none⟩ y).heap[g]? = some (.cells (cur.setIfInBounds j y) T (0, 0)) ∧ w.grownBy (w.setCell ⟨g, j, none⟩ y) (some g) := by
  refine ⟨heap_setCell_same w g j _ T y h, ⟨rfl, rfl, rfl, by simp, fun k hk hne => ?_⟩⟩
  have hk' : k ≠ g := fun e => hne (by rw [e])
  rw [heap_setCell_other _ _ _ _ hk']
def upd {α : Type} (f : Nat → α) (k : Nat) (x : α) : Nat → α := fun j => if j = k then x else f j
/-- what a Cpu holds -/
structure St where
  r : Nat → Int
  z : Nat → Nat × Nat
  m : Nat → Int
  stk : List Int
  out : List Int
  inp : List Int
/-- where the parts of a Cpu lie: the program's, and the document's -/
structure Lay where
  T : TypeId
  mo : Nat
  so : Nat
  oo : Nat
  io : Nat
def rowI (l : List Int) : List Value := l.map (Value.int .i32)
theorem rowI_len (l : List Int) : (rowI l).length = l.length := by simp [rowI]
/-- a list that is only read -/
def InAt (ks : Nat → Prop) (w : World) (p : Nat) (v : Value) (l : List Int) : Prop :=
  ∃ a c, v = .slice a l.length c ∧ l.length ≤ c ∧ (l ≠ [] → ∃ g o, a = some ⟨g, o, none⟩ ∧ ks g ∧ g ≠ p ∧ g < w.heap.size ∧ ∀ j x, l[j]? = some x → w.cell? ⟨g, o + j, none⟩ = some (.int .i32 x))
/-- the cells of a Cpu -/
structure Cs (L : Lay) (cs : Array Value) (s : St) (vs vo va : Value) : Prop where
  size : cs.size = 271
  r : ∀ k, k < 8 → cs[k]? = some (.int .i32 (s.r k))
  z : ∀ k, k < 4 → cs[8 + k]? = some (.complex .f64 (s.z k).1 (s.z k).2)
  m : ∀ k, k < 256 → cs[L.mo + k]? = some (.int .i32 (s.m k))
  st : cs[L.so]? = some vs
  ou : cs[L.oo]? = some vo
  ip : cs[L.io]? = some va
structure LayOK (L : Lay) : Prop where
  m : 12 ≤ L.mo ∧ L.mo + 256 ≤ 271
  s : 12 ≤ L.so ∧ L.so < 271 ∧ (L.so < L.mo ∨ L.mo + 256 ≤ L.so)
  o : 12 ≤ L.oo ∧ L.oo < 271 ∧ (L.oo < L.mo ∨ L.mo + 256 ≤ L.oo)
  i : 12 ≤ L.io ∧ L.io < 271 ∧ (L.io < L.mo ∨ L.mo + 256 ≤ L.io)
  ne : L.so ≠ L.oo ∧ L.so ≠ L.io ∧ L.oo ≠ L.io
def LP : Lay := ⟨73, 12, 268, 269, 270⟩
def LD : Lay := ⟨53, 13, 12, 269, 270⟩
theorem okP : LayOK LP := ⟨by decide, by decide, by decide, by decide, by decide⟩
theorem okD : LayOK LD := ⟨by decide, by decide, by decide, by decide, by decide⟩
/-- a Cpu at p; its blocks are among ks -/
structure CpuAt (L : Lay) (ks : Nat → Prop) (w : World) (p : Nat) (s : St) : Prop where
  kp : ks p
  kl : ∀ g, ks g → g < w.heap.size
  rb : ∀ k, -2147483648 ≤ s.r k ∧ s.r k ≤ 2147483647
  mb : ∀ k, -2147483648 ≤ s.m k ∧ s.m k ≤ 2147483647
  zb : ∀ k, (s.z k).1 < 2 ^ 64 ∧ (s.z k).2 < 2 ^ 64
  sb : ∀ x ∈ s.stk, -2147483648 ≤ x ∧ x ≤ 2147483647
  ob : ∀ x ∈ s.out, -2147483648 ≤ x ∧ x ≤ 2147483647
  ib : ∀ x ∈ s.inp, -2147483648 ≤ x ∧ x ≤ 2147483647
  mem : ∃ cs vs vo va, w.heap[p]? = some (.cells cs L.T (0, 0)) ∧ Cs L cs s vs vo va ∧
    w.ownsRow 0 21 1 vs s.stk.length (rowI s.stk) ∧ w.ownsRow 0 21 1 vo s.out.length (rowI s.out) ∧ InAt ks w p va s.inp ∧
    (∀ g, vs.ownBlock = some g → ks g ∧ g ≠ p ∧ vo.ownBlock ≠ some g ∧ (s.inp ≠ [] → va.ownBlock ≠ some g)) ∧ (∀ g, vo.ownBlock = some g → ks g ∧ g ≠ p ∧ (s.inp ≠ [] → va.ownBlock ≠ some g))
/-- only blocks of ks have changed -/
structure Moved (ks : Nat → Prop) (w w' : World) : Prop where
  os : w'.os = w.os
  tape : w'.tape = w.tape
  output : w'.output = w.output
  size : w.heap.size ≤ w'.heap.size
  block : ∀ k, k < w.heap.size → ¬ ks k → w'.heap[k]? = w.heap[k]?
theorem Moved.refl (ks : Nat → Prop) (w : World) : Moved ks w w := ⟨rfl, rfl, rfl, Nat.le_refl _, fun _ _ _ => rfl⟩
theorem Moved.of_below {ks : Nat → Prop} {w w' : World} (h : Below w.heap.size w w') : Moved ks w w' := ⟨h.os, h.tape, h.output, h.size, fun k hk _ => h.block k hk⟩
/-- new names are new -/
def More (ks ks' : Nat → Prop) (w : World) : Prop := (∀ g, ks g → ks' g) ∧ ∀ g, ks' g → ks g ∨ w.heap.size ≤ g
theorem More.refl (ks : Nat → Prop) (w : World) : More ks ks w := ⟨fun _ h => h, fun _ h => .inl h⟩
theorem More.trans {ks ks1 ks2 : Nat → Prop} {w w1 : World} (h : More ks ks1 w) (k : More ks1 ks2 w1) (hs : w.heap.size ≤ w1.heap.size) : More ks ks2 w :=
  ⟨fun g hg => k.1 g (h.1 g hg), fun g hg => (k.2 g hg).elim (fun h1 => h.2 g h1) fun h1 => .inr (Nat.le_trans hs h1)⟩
theorem Moved.trans {ks ks1 : Nat → Prop} {w w1 w2 : World} (h : Moved ks w w1) (k : Moved ks1 w1 w2) (m : More ks ks1 w) : Moved ks w w2 :=
  ⟨k.os.trans h.os, k.tape.trans h.tape, k.output.trans h.output, Nat.le_trans h.size k.size, fun g hg hn => (k.block g (Nat.lt_of_lt_of_le hg h.size) fun h1 => (m.2 g h1).elim hn (by omega)).trans (h.block g hg hn)⟩
theorem Moved.grown {ks : Nat → Prop} {w w1 w2 : World} {k : Option Nat} (h : Moved ks w w1) (hg : w1.grownBy w2 k) (hk : ∀ g, k = some g → ks g) : Moved ks w w2 :=
  ⟨hg.os.trans h.os, hg.tape.trans h.tape, hg.output.trans h.output, Nat.le_trans h.size hg.size, fun g hl hn => (hg.block g (Nat.lt_of_lt_of_le hl h.size) fun e => hn (hk g e.symm)).trans (h.block g hl hn)⟩
theorem Moved.below {ks : Nat → Prop} {w w' : World} {lo : Nat} (h : Moved ks w w') (hk : ∀ g, ks g → lo ≤ g) (hl : lo ≤ w.heap.size) : Below lo w w' :=
  ⟨h.os, h.tape, h.output, h.size, fun g hg => h.block g (Nat.lt_of_lt_of_le hg hl) fun h1 => by have := hk g h1; omega⟩

section
variable {L : Lay} {ks : Nat → Prop} {w w' : World} {p : Nat} {s : St}
theorem own_kept0 {v : Value} {n : Nat} {xs : List Value} {T : TypeId} {sz : Nat} (h : w.ownsRow 0 T sz v n xs) (hb : ∀ g, v.ownBlock = some g → w'.heap[g]? = w.heap[g]?) : w'.ownsRow 0 T sz v n xs := by
  refine ⟨h.1, ?_⟩
  rcases h.2 with hx | ⟨g, cap, cur, k1, k2, k3, k4⟩
  · exact .inl hx
  · exact .inr ⟨g, cap, cur, k1, k2, (hb g (by rw [k1]; rfl)).trans k3, k4⟩
theorem InAt.kept {v : Value} {l : List Int} (h : InAt ks w p v l) (hs : w.heap.size ≤ w'.heap.size) (hb : ∀ g, v.ownBlock = some g → l ≠ [] → w'.heap[g]? = w.heap[g]?) : InAt ks w' p v l := by
  obtain ⟨a, c, e, hc, h⟩ := h
  refine ⟨a, c, e, hc, fun hl => ?_⟩
  obtain ⟨g, o, e2, k1, k2, k3, k4⟩ := h hl
  subst e e2
  exact ⟨g, o, rfl, k1, k2, Nat.lt_of_lt_of_le k3 hs, fun j x hj => (show w'.cell? ⟨g, o + j, none⟩ = w.cell? ⟨g, o + j, none⟩ from World.cell?_of_block (hb g rfl hl)).trans (k4 j x hj)⟩
theorem CpuAt.keep (h : CpuAt L ks w p s) (hs : w.heap.size ≤ w'.heap.size) (hb : ∀ g, ks g → w'.heap[g]? = w.heap[g]?) : CpuAt L ks w' p s := by
  obtain ⟨cs, vs, vo, va, h1, h2, h3, h4, h5, h6, h7⟩ := h.mem
  refine ⟨h.kp, fun g hg => Nat.lt_of_lt_of_le (h.kl g hg) hs, h.rb, h.mb, h.zb, h.sb, h.ob, h.ib, cs, vs, vo, va, (hb p h.kp).trans h1, h2, own_kept0 h3 fun g hg => hb g (h6 g hg).1, own_kept0 h4 fun g hg => hb g (h7 g hg).1, ?_, h6, h7⟩
  refine h5.kept hs fun g hg hl => ?_
  obtain ⟨a, c, e, _, k⟩ := h5
  obtain ⟨g', o, e2, k1, _⟩ := k hl
  subst e e2
  cases hg
  exact hb _ k1
theorem CpuAt.below (h : CpuAt L ks w p s) (hb : Below w.heap.size w w') : CpuAt L ks w' p s := h.keep hb.size fun g hg => hb.block g (h.kl g hg)
theorem CpuAt.drew (h : CpuAt L ks w p s) : CpuAt L ks w.drew p s := h.keep (Nat.le_refl _) fun _ _ => rfl
theorem CpuAt.alloc (h : CpuAt L ks w p s) (o : Obj) : CpuAt L ks (w.alloc o) p s := h.below (below_alloc w o)
/-- what another Cpu does -/
theorem CpuAt.moved {ks2 : Nat → Prop} (h : CpuAt L ks w p s) (hm : Moved ks2 w w') (hd : ∀ g, ks g → ¬ ks2 g) : CpuAt L ks w' p s := h.keep hm.size fun g hg => hm.block g (h.kl g hg) (hd g hg)
theorem CpuAt.lt (h : CpuAt L ks w p s) : p < w.heap.size := h.kl p h.kp
theorem CpuAt.reg (h : CpuAt L ks w p s) {k : Nat} (hk : k < 8) : w.cell? ⟨p, k, none⟩ = some (.int .i32 (s.r k)) := by
  obtain ⟨cs, vs, vo, va, h1, h2, _⟩ := h.mem
  exact (Joins.cell_of_block h1 k).trans (h2.r k hk)
theorem CpuAt.zr (h : CpuAt L ks w p s) {k : Nat} (hk : k < 4) : w.cell? ⟨p, 8 + k, none⟩ = some (.complex .f64 (s.z k).1 (s.z k).2) := by
  obtain ⟨cs, vs, vo, va, h1, h2, _⟩ := h.mem
  exact (Joins.cell_of_block h1 _).trans (h2.z k hk)
theorem CpuAt.wd (h : CpuAt L ks w p s) {k : Nat} (hk : k < 256) : w.cell? ⟨p, L.mo + k, none⟩ = some (.int .i32 (s.m k)) := by
  obtain ⟨cs, vs, vo, va, h1, h2, _⟩ := h.mem
  exact (Joins.cell_of_block h1 _).trans (h2.m k hk)
theorem CpuAt.fz (h : CpuAt L ks w p s) (k : Nat) : w.frozen? ⟨p, k, none⟩ = false := by
  obtain ⟨cs, vs, vo, va, h1, _⟩ := h.mem
  exact frozen_of_row w p k _ _ h1
end
end Go.Proofs.YtlchefdddgbohaaDoor
