/- TmMem: what the document's Right wants besides. -/
import Derived.Test.YtmndccbeddaphaaGreatDoorIFind
import Derived.Test.YtmndccbeddaphaaGreatDoorZIRefK
import Derived.Handy
namespace Go.Proofs.YtmndccbeddaphaaGreatDoor
open Go.ChangeShapes Go.WideShapes Go.ChangeAt Go.RowKit
set_option linter.unusedVariables false
set_option maxRecDepth 100000
theorem rowT_push (acc : List Tm) (t : Tm) : rowT (acc ++ [t]) = rowT acc ++ t.cells := by simp [rowT]
theorem rowT_append (a b : List Tm) : rowT (a ++ b) = rowT a ++ rowT b := by simp [rowT]
theorem rowT_length (ts : List Tm) : (rowT ts).length = ts.length * 2 := by
  induction ts with
  | nil => rfl
  | cons x ts ih =>
    have hx : rowT (x :: ts) = x.cells ++ rowT ts := by simp [rowT]
    have hl : x.cells.length = 2 := rfl
    rw [hx, List.length_append, ih, hl, List.length_cons]
    omega
theorem TmLies.nil (w : World) (a : Option Addr) : TmLies w a [] := .inl rfl
theorem own_type {w : World} {lo : Nat} {T : TypeId} {sz : Nat} {v : Value} {n : Nat} {xs : List Value} (h : w.ownsRow lo T sz v n xs) {g : Nat} (hg : v.ownBlock = some g) : ∃ cur, w.heap[g]? = some (.cells cur T (0, 0)) := by
  rcases h.2 with ⟨rfl, _⟩ | ⟨g', cap, cur, rfl, _, hgg, _⟩
  · simp [Value.ownBlock] at hg
  · simp [Value.ownBlock] at hg
    subst hg
    exact ⟨cur, hgg⟩
theorem Two.a0 {w : World} {g : Nat} {T : TypeId} {x y : Value} (h : Two w g T x y) : ∀ o, (w.alloc o).cell? ⟨g, 0, none⟩ = some x := fun o => (h.alloc o).c0
theorem Two.a1 {w : World} {g : Nat} {T : TypeId} {x y : Value} (h : Two w g T x y) : ∀ o, (w.alloc o).cell? ⟨g, 1, none⟩ = some y := fun o => (h.alloc o).c1
theorem Two.b0 {w : World} {g : Nat} {T : TypeId} {x y : Value} (h : Two w g T x y) : ∀ o, (w.alloc o).frozen? ⟨g, 0, none⟩ = false := fun o => (h.alloc o).f0
theorem Two.b1 {w : World} {g : Nat} {T : TypeId} {x y : Value} (h : Two w g T x y) : ∀ o, (w.alloc o).frozen? ⟨g, 1, none⟩ = false := fun o => (h.alloc o).f1
theorem Two.grown {w w' : World} {g : Nat} {T : TypeId} {x y : Value} {k : Option Nat} (h : Two w g T x y) (hg : w.grownBy w' k) (hk : k ≠ some g) : Two w' g T x y :=
  two_of (by rw [hg.block g (Array.getElem?_eq_some_iff.1 h.heap).1 (fun e => hk e.symm)]; exact h.heap)
theorem two_set {w : World} {g : Nat} {T : TypeId} {cur : Array Value} (h : w.heap[g]? = some (.cells cur T (0, 0))) (hc : cur.size = 2) (x y : Value) :
    Two ((w.setCell ⟨g, 0, none⟩ x).setCell ⟨g, 1, none⟩ y) g T x y ∧ w.grownBy ((w.setCell ⟨g, 0, none⟩ x).setCell ⟨g, 1, none⟩ y) (some g) := by
  have h1 := heap_setCell_same w g 0 cur T x h
  have h2 := heap_setCell_same _ g 1 _ T y h1
  refine ⟨two_of ?_, ?_⟩
  · rw [h2]
    obtain ⟨l⟩ := cur
    match l, hc with
    | [a, b], _ => rfl
  · refine ⟨rfl, rfl, rfl, by simp, fun k hk hne => ?_⟩
    have hk' : k ≠ g := fun e => hne (by rw [e])
    rw [heap_setCell_other _ _ _ _ hk', heap_setCell_other _ _ _ _ hk']
theorem cells_new2 (w : World) (o : Obj) (cs : Array Value) (T : TypeId) : ∀ j u, cs.toList[j]? = some u → ((w.alloc o).alloc (.cells cs T)).cell? ((⟨w.heap.size + 1, 0, none⟩ : Addr).add j) = some u := by
  intro j u h
  have := cells_new (w.alloc o) cs T j u h
  rwa [show (w.alloc o).heap.size = w.heap.size + 1 by simp] at this
theorem two_put {w : World} {g : Nat} {T : TypeId} {x y : Value} (h : Two w g T x y) (z : Value) : Two (w.setCell ⟨g, 0, none⟩ z) g T z y ∧ w.grownBy (w.setCell ⟨g, 0, none⟩ z) (some g) := by
  have h1 := heap_setCell_same w g 0 _ T z h.heap
  refine ⟨two_of h1, ⟨rfl, rfl, rfl, by simp, fun k hk hne => ?_⟩⟩
  have hk' : k ≠ g := fun e => hne (by rw [e])
  rw [heap_setCell_other _ _ _ _ hk']
theorem two_put1 {w : World} {g : Nat} {T : TypeId} {x y : Value} (h : Two w g T x y) (z : Value) : Two (w.setCell ⟨g, 1, none⟩ z) g T x z ∧ w.grownBy (w.setCell ⟨g, 1, none⟩ z) (some g) := by
  have h1 := heap_setCell_same w g 1 _ T z h.heap
  refine ⟨two_of h1, ⟨rfl, rfl, rfl, by simp, fun k hk hne => ?_⟩⟩
  have hk' : k ≠ g := fun e => hne (by rw [e])
  rw [heap_setCell_other _ _ _ _ hk']
theorem two_below {w w' : World} {T : TypeId} {x y : Value} (hb : Below (w.alloc (.cells #[x, y] T)).heap.size (w.alloc (.cells #[x, y] T)) w') : Two w' w.heap.size T x y := (two_new w T x y).below hb (by simp)
theorem one_below {w w1 : World} {o : Obj} (hb : Below (w.alloc o).heap.size (w.alloc o) w1) : Below w.heap.size w w1 := (below_alloc w o).trans (hb.mono (by simp))
theorem alloc_lt {w w1 : World} {o : Obj} (hb : Below (w.alloc o).heap.size (w.alloc o) w1) : w.heap.size < w1.heap.size := by
  have := hb.size
  simp at this
  omega
theorem own_new (w : World) (B : Nat) (hB : B ≤ w.heap.size) (cs : Array Value) (n : Nat) (T : TypeId) (sz : Nat) (hs : cs.size = n * sz) (hn : n ≤ 1100000) (h0 : n ≠ 0) : (w.alloc (.cells cs T)).ownsRow B T sz (.slice (some ⟨w.heap.size, 0, none⟩) n n) n cs.toList :=
  ⟨by simpa using hs, .inr ⟨w.heap.size, n, cs, rfl, hB, heap_alloc_new w _, Nat.le_refl _, by unfold maxLen; omega, hs, by rw [← hs, List.take_of_length_le (by simp)]⟩⟩
theorem grown_wide {a b : World} (h : a.grownBy b none) (r : Option Nat) : a.grownBy b r := ⟨h.os, h.tape, h.output, h.size, fun i hi _ => h.block i hi (by simp)⟩
theorem Tryz.info123 : (Tryz.prog.info? 107).map (fun i => (i.zero, i.size, i.bytes)) = some (some (.agg #[.string ⟨#[]⟩, .int .u32 0]), 2, 24) := by kernel_rfl
end Go.Proofs.YtmndccbeddaphaaGreatDoor
