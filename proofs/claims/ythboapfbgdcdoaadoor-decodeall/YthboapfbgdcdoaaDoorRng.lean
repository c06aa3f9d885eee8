/- A range over decode.All whose variable has a box of its own; what the loops' cells hold. -/
import Derived.Test.YthboapfbgdcdoaaDoorAllIt
import Derived.RangeFuncFrom
import Derived.RangeFuncNested
import Derived.Sort.CutIn
namespace Go.Proofs.YthboapfbgdcdoaaDoor
open Go.ChangeShapes Go.WideShapes Go.ChangeAt Go.RowKit Go.Shelf
set_option linter.unusedVariables false
set_option maxRecDepth 100000
attribute [local go_sem] Oper.semAt_some

theorem alloc_heapN {w : World} {g : Nat} {x : Obj} (h : w.heap[g]? = some x) (o : Obj) : (w.alloc o).heap[g]? = some x := ((below_alloc w o).block g (Array.getElem?_eq_some_iff.1 h).1).trans h

/-- what a cell holds, and it may be written -/
structure CI (W : World) (b k : Nat) (v : Value) : Prop where
  cell : W.cell? ⟨b, k, none⟩ = some v
  froz : W.frozen? ⟨b, k, none⟩ = false

theorem ci_of {W : World} {b k : Nat} {T : TypeId} {cur : Array Value} {v : Value} (h : W.heap[b]? = some (.cells cur T (0, 0))) (hv : cur[k]? = some v) : CI W b k v := ⟨by rw [cell_of_row _ _ _ _ _ _ h]; exact hv, frozen_of_row _ _ _ _ _ h⟩
theorem CI.set {W : World} {b k : Nat} {v0 : Value} (h : CI W b k v0) (v : Value) : CI (W.setCell ⟨b, k, none⟩ v) b k v := ⟨World.cell?_setCell_same' _ _ _ (by rw [h.cell]; rfl), by rw [World.frozen?_setCell]; exact h.froz⟩
theorem CI.other {W : World} {b k b' k' : Nat} {v v' : Value} (h : CI W b k v) (hb : b ≠ b') : CI (W.setCell ⟨b', k', none⟩ v') b k v :=
  ⟨(World.cell?_of_block (heap_setCell_other W ⟨b', k', none⟩ b v' hb)).trans h.cell, by rw [World.frozen?_setCell]; exact h.froz⟩
theorem CI.kept {A B : World} {row : Option Nat} {b k : Nat} {v : Value} (h : CI A b k v) (hg : A.grownBy B row) (hr : ∀ r, row = some r → ∃ o : Obj, A.heap[r]? = some o ∧ o.isCells = false) : CI B b k v := ⟨cell_kept h.cell hg hr, (frozen_kept h.cell hg hr).trans h.froz⟩
theorem CI.lt {W : World} {b k : Nat} {v : Value} (h : CI W b k v) : b < W.heap.size := World.block_lt_of_cell? W ⟨b, k, none⟩ h.cell
theorem CI.below {W W' : World} {b k B : Nat} {v : Value} (h : CI W b k v) (hb : Below B W W') (hB : b < B) : CI W' b k v := ⟨(hb.cell (p := ⟨b, k, none⟩) hB).trans h.cell, (World.frozen?_of_block (a := ⟨b, k, none⟩) (hb.block b hB)).trans h.froz⟩
theorem CI.alloc {W : World} {b k : Nat} {v : Value} (h : CI W b k v) (o : Obj) : CI (W.alloc o) b k v := h.below (below_alloc W o) h.lt

/-- the box of a step -/
def StepAt (W : World) (g : Nat) (x : StA) : Prop := W.heap[g]? = some (.cells #[.int .i64 x.1, .int .i64 x.2.1, .int .i64 x.2.2.o, .int .i64 x.2.2.a, .int .i64 x.2.2.b, .int .i32 x.2.2.n, .int .i64 x.2.2.f] 34 (0, 0))
theorem StepAt.kept {A B : World} {row : Option Nat} {g : Nat} {x : StA} (h : StepAt A g x) (hg : A.grownBy B row) (hr : ∀ r, row = some r → ∃ o : Obj, A.heap[r]? = some o ∧ o.isCells = false) : StepAt B g x :=
  (hg.block g (Array.getElem?_eq_some_iff.1 h).1 (fun e => by obtain ⟨o, ho, hc⟩ := hr g e.symm; rw [show A.heap[g]? = _ from h] at ho; cases ho; cases hc)).trans h
theorem StepAt.lt {W : World} {g : Nat} {x : StA} (h : StepAt W g x) : g < W.heap.size := (Array.getElem?_eq_some_iff.1 h).1
theorem StepAt.cells {W : World} {g : Nat} {x : StA} (h : StepAt W g x) : W.cell? ⟨g, 0, none⟩ = some (.int .i64 x.1) ∧ W.cell? ⟨g, 1, none⟩ = some (.int .i64 x.2.1) ∧ W.cell? ⟨g, 2, none⟩ = some (.int .i64 x.2.2.o) ∧ W.cell? ⟨g, 3, none⟩ = some (.int .i64 x.2.2.a) ∧ W.cell? ⟨g, 4, none⟩ = some (.int .i64 x.2.2.b) ∧ W.cell? ⟨g, 5, none⟩ = some (.int .i32 x.2.2.n) ∧ W.cell? ⟨g, 6, none⟩ = some (.int .i64 x.2.2.f) :=
  ⟨(cell_block h 0).trans rfl, (cell_block h 1).trans rfl, (cell_block h 2).trans rfl, (cell_block h 3).trans rfl, (cell_block h 4).trans rfl, (cell_block h 5).trans rfl, (cell_block h 6).trans rfl⟩

/-- the activation of a round: slot 'sl' holds the step's box -/
abbrev roundAct (ps : Array Tmp) (sl : Nat) (tmps : Array Value) (x : StA) (gx : Nat) : Act :=
  { tmps := ((ps.zip (encS x)).foldl (fun t (p, v) => t.setIfInBounds p v) tmps).setIfInBounds sl (.pointer (some ⟨gx, 0, none⟩)), defers := [] }

theorem range_boxed {n : Nat} {g : Operand} {ps : Array Tmp} {assign body : Code} {Q : Exit → Act → World → Prop} {a : Act} {w : World} (sl : Nat)
    (h1 : 1 ≤ n) {gr ga : Nat} (hg : a.eval g = .func (.func 24) #[] #[.pointer (some ⟨gr, 0, none⟩), .pointer (some ⟨ga, 0, none⟩)])
    {n0 : Nat} {S Sp : List StA → Prop} {N : Nat} {w0 : World} (hseq : SeqStopsK Fence.wide (n - 1) Tryd.prog 24 #[.pointer (some ⟨gr, 0, none⟩), .pointer (some ⟨ga, 0, none⟩)] encS (Below n0) S Sp N w0)
    (hn0 : n0 ≤ w.heap.size) (hb0 : Below w0.heap.size w0 w) (hps : 1 = ps.size)
    (I : List StA → World → Prop) (Ix : Code → List StA → World → Prop) (hI : OwnFrom w.heap.size I) (hIx : ∀ c, OwnFrom w.heap.size (Ix c)) (h0 : I [] w)
    (hassign : ∀ (l : Nat) (pre : List StA) (x : StA) (W : World) (K : Act → World → Prop), I pre W → w.heap.size ≤ W.heap.size → (∀ gx W', w.heap.size ≤ gx → KeepsFrom w.heap.size W W' → Below n0 W W' → I pre W' → StepAt W' gx x → K (roundAct ps sl a.tmps x gx) W') →
      assign.wpIn (Fence.wide.inRound l) (n - 1 - 1) Tryd.prog (Exit.then K (fun _ _ _ => False)) { tmps := (ps.zip (encS x)).foldl (fun t (p, v) => t.setIfInBounds p v) a.tmps, defers := [] } W)
    (hsize : ∀ pre W, I pre W → w.heap.size ≤ W.heap.size)
    (hbody : ∀ (l : Nat) (pre : List StA) (x : StA) (gx : Nat) (W : World), w.heap.size ≤ gx → I pre W → StepAt W gx x → pre.length < N → body.wpIn (Fence.wide.inRound l) (n - 1 - 1) Tryd.prog (ownPostG w.heap.size (Below n0) I Ix (pre ++ [x]) W) (roundAct ps sl a.tmps x gx) W)
    (hdone : ∀ (D : Nat) (xs : List StA) (W : World), w.heap.size ≤ D → S xs → I xs W → W.heap[D]? = some (.deferred (some [])) → Q .normal { a with defers := { target := .collected D, args := #[] } :: a.defers } W)
    (hstop : ∀ (D : Nat) (c : Code) (pre : List StA) (W : World), w.heap.size ≤ D → Sp pre → Ix c pre W → W.heap[D]? = some (.deferred (some [])) → c.wpIn Fence.wide n Tryd.prog Q { a with defers := { target := .collected D, args := #[] } :: a.defers } W) :
    (Code.rangeFunc g ps assign body).wpIn Fence.wide n Tryd.prog Q a w := by
  refine wpIn_rangeFunc_ownH (F := Fence.wide) rfl h1 hg trivial (enters_of Tryd.func24 (by kernel_rfl) rfl) hseq (fun h k => belowK_t h k) (fun W l o o' hl h hc hw => belowK_b hn0 W l o o' hl h hc hw) hb0 (fun x => hps) I Ix hI hIx h0
    (fun x a' W => ∃ gx, w.heap.size ≤ gx ∧ a' = roundAct ps sl a.tmps x gx ∧ StepAt W gx x) (fun x a' _ A B row hs hg hr => by
      obtain ⟨gx, h1, h2, h3⟩ := hs
      exact ⟨gx, h1, h2, h3.kept hg (fun r e => (hr r e).2)⟩) ?_ ?_ hdone hstop
  · intro l pre x W K hi hK
    exact hassign l pre x W K hi (hsize pre W hi) (fun gx W' hgx hk hkp hi' hs => hK _ W' hk hkp hi' ⟨gx, hgx, rfl, hs⟩)
  · rintro l pre x a' W hl hr hi ⟨gx, hgx, rfl, hs⟩ hlen
    exact hbody l pre x gx W hgx hi hs hlen

theorem keeps_alloc (B : Nat) (W : World) (o : Obj) : KeepsFrom B W (W.alloc o) := KeepsFrom.of_grownBy (World.grownBy_alloc W o none) (fun j e => by cases e)
theorem keeps_set (B : Nat) (W : World) (p : Addr) (v : Value) : KeepsFrom B W (W.setCell p v) := (KeepsOthers.setCell W p v).from B
theorem keeps_below {B : Nat} {W W' : World} (h : Below W.heap.size W W') : KeepsFrom B W W' := KeepsFrom.of_grownBy (grown_of_below h) (fun j e => by cases e)
theorem stepAt_new (W : World) (x : StA) : StepAt (W.alloc (.cells #[.int .i64 x.1, .int .i64 x.2.1, .int .i64 x.2.2.o, .int .i64 x.2.2.a, .int .i64 x.2.2.b, .int .i32 x.2.2.n, .int .i64 x.2.2.f] 34)) W.heap.size x := heap_alloc_new W _
end Go.Proofs.YthboapfbgdcdoaaDoor
