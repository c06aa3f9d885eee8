/- book.Same, Roomy and Intact over the program's tokens. -/
import Derived.Test.YtlkmegchaeokgaaGreatDoorKnown
import Derived.Test.YtlkmegchaeokgaaGreatDoorQuietB
import Derived.Deep.QuietTactic
import Derived.BigQuiet
import Derived.WalkSmall
import Derived.WalkSpells
import Derived.Laws.CopyOwn
namespace Go.Proofs.YtlkmegchaeokgaaGreatDoor
open Go.ChangeShapes Go.WideShapes Go.ChangeAt Go.RowKit
set_option linter.unusedVariables false
set_option maxRecDepth 100000
theorem cell_blockT {w : World} {b : Nat} {cs : Array Value} {t : TypeId} {z : _} (h : w.heap[b]? = some (.cells cs t z)) (j : Nat) : w.cell? ⟨b, j, none⟩ = cs[j]? := by
 unfold World.cell?
 rw [h]
 rfl
theorem flat_atT {α β : Type} (f : α -> List β) (k : Nat) (hf : ∀ x, (f x).length = k) : ∀ (l : List α) (i j : Nat) (x : α), l[i]? = some x -> j < k -> (l.flatMap f)[i * k + j]? = (f x)[j]?
 | [], i, j, x, h, hj => by simp at h
 | y :: l, 0, j, x, h, hj => by
  simp only [List.getElem?_cons_zero, Option.some.injEq] at h
  subst h
  rw [List.flatMap_cons, Nat.zero_mul, Nat.zero_add, List.getElem?_append_left (by rw [hf]; exact hj)]
 | y :: l, i + 1, j, x, h, hj => by
  rw [List.flatMap_cons, List.getElem?_append_right (by rw [hf, Nat.succ_mul]; omega), hf, show (i + 1) * k + j - k = i * k + j by rw [Nat.succ_mul]; omega]
  exact flat_atT f k hf l i j x (by simpa using h) hj
structure TkAt (w : World) (g off : Nat) (t : Tok) : Prop where
 o : w.cell? ⟨g, off, none⟩ = some (.int .i64 t.kind)
 a : w.cell? ⟨g, off + 1, none⟩ = some (.string (str t.text))
 b : w.cell? ⟨g, off + 2, none⟩ = some (.int .u32 t.num)
 n : w.cell? ⟨g, off + 3, none⟩ = some (.int .i64 (t.place : Int))
theorem TkAt.lt {w : World} {g off : Nat} {x : Tok} (h : TkAt w g off x) : g < w.heap.size := World.block_lt_of_cell? w _ h.o
theorem TkAt.below {w w' : World} {g off B : Nat} {x : Tok} (h : TkAt w g off x) (hb : Below B w w') (hB : g < B) : TkAt w' g off x :=
 ⟨(hb.cell (p := ⟨g, off, none⟩) hB).trans h.o, (hb.cell (p := ⟨g, off + 1, none⟩) hB).trans h.a, (hb.cell (p := ⟨g, off + 2, none⟩) hB).trans h.b, (hb.cell (p := ⟨g, off + 3, none⟩) hB).trans h.n⟩
def TLies (w : World) (a : Option Addr) (xs : List Tok) : Prop := xs = [] ∨ ∃ g off, a = some ⟨g, off, none⟩ /\ ∀ i x, xs[i]? = some x -> TkAt w g (off + i * 4) x
theorem TLies.below {w w' : World} {a : Option Addr} {xs : List Tok} (h : TLies w a xs) (hb : Below w.heap.size w w') : TLies w' a xs := by
 rcases h with h | ⟨g, off, ha, hc⟩
 ·exact .inl h
 ·exact .inr ⟨g, off, ha, fun i x hx => (hc i x hx).below hb (hc i x hx).lt⟩
section
variable {P : Program}
end
def rowK (xs : List Tok) : List Value := xs.flatMap Tok.cells
theorem rowK_get (xs : List Tok) (i j : Nat) (x : Tok) (hi : xs[i]? = some x) (hj : j < 4) : (rowK xs)[i * 4 + j]? = x.cells[j]? := flat_atT Tok.cells 4 (fun _ => rfl) xs i j x hi hj
def RowK2 (w : World) (g : Nat) (xs : List Tok) : Prop := w.heap[g]? = some (.cells (rowK xs).toArray 64 (0, 0))
theorem RowK2.at {w : World} {g : Nat} {xs : List Tok} (h : RowK2 w g xs) (i : Nat) (x : Tok) (hi : xs[i]? = some x) : TkAt w g (i * 4) x := by
 have key : ∀ j, j < 4 -> w.cell? ⟨g, i * 4 + j, none⟩ = x.cells[j]? := fun j hj => by rw [cell_blockT h, List.getElem?_toArray, rowK_get xs i j x hi hj]
 exact ⟨(key 0 (by omega)).trans rfl, (key 1 (by omega)).trans rfl, (key 2 (by omega)).trans rfl, (key 3 (by omega)).trans rfl⟩
theorem RowK2.lt {w : World} {g : Nat} {xs : List Tok} (h : RowK2 w g xs) : g < w.heap.size := (Array.getElem?_eq_some_iff.1 h).1
theorem RowK2.below {w w' : World} {g B : Nat} {xs : List Tok} (h : RowK2 w g xs) (hb : Below B w w') (hg : g < B) : RowK2 w' g xs := by
 unfold RowK2 at h ⊢
 rw [hb.block g hg, h]
theorem RowK2.frozen {w : World} {g : Nat} {xs : List Tok} (h : RowK2 w g xs) (i : Nat) : w.frozen? ⟨g, i, none⟩ = false := frozen_of_row w g i _ 64 h
theorem RowK2.lies {w : World} {g : Nat} {xs ys : List Tok} (h : RowK2 w g (xs ++ ys)) : TLies w (some ⟨g, 0, none⟩) xs :=
 .inr ⟨g, 0, rfl, fun i x hx => by
  have hl := (List.getElem?_eq_some_iff.1 hx).1
  have := h.at i x (by rw [List.getElem?_append_left hl]; exact hx)
  rwa [Nat.zero_add]⟩
theorem setT (xs : List Tok) (k : Nat) (hk : k < xs.length) (y : Tok) : ((((rowK xs).set (k * 4) (.int .i64 y.kind)).set (k * 4 + 1) (.string (str y.text))).set (k * 4 + 2) (.int .u32 y.num)).set (k * 4 + 3) (.int .i64 (y.place : Int)) = rowK (xs.set k y) := by
 induction xs generalizing k with
 | nil => simp at hk
 | cons x xs ih =>
  have hx : ∀ z zs, rowK (z :: zs) = z.cells ++ rowK zs := fun z zs => by simp [rowK]
  cases k with
  | zero =>
   rw [List.set_cons_zero, hx, hx]
   rfl
  | succ k =>
   rw [List.set_cons_succ, hx, hx, <- ih k (by simpa using hk)]
   have hl : x.cells.length = 4 := rfl
   have e : ∀ (L : List Value) (j : Nat) (v : Value), (x.cells ++ L).set ((k + 1) * 4 + j) v = x.cells ++ L.set (k * 4 + j) v := fun L j v => by
    rw [List.set_append_right _ _ (by rw [hl]; omega), hl, show (k + 1) * 4 + j - 4 = k * 4 + j by omega]
   have e0 := e (rowK xs) 0 (.int .i64 y.kind)
   rw [Nat.add_zero, Nat.add_zero] at e0
   rw [e0, e, e, e]
   rfl
theorem RowK2.set {w : World} {g : Nat} {xs : List Tok} (h : RowK2 w g xs) (k : Nat) (hk : k < xs.length) (y : Tok) :
  RowK2 ((((w.setCell ⟨g, k * 4, none⟩ (.int .i64 y.kind)).setCell ⟨g, k * 4 + 1, none⟩ (.string (str y.text))).setCell ⟨g, k * 4 + 2, none⟩ (.int .u32 y.num)).setCell ⟨g, k * 4 + 3, none⟩ (.int .i64 (y.place : Int))) g (xs.set k y) := by
 have h1 := heap_setCell_same w g (k * 4) _ 64 (.int .i64 y.kind) h
 have h2 := heap_setCell_same _ g (k * 4 + 1) _ 64 (.string (str y.text)) h1
 have h3 := heap_setCell_same _ g (k * 4 + 2) _ 64 (.int .u32 y.num) h2
 have h4 := heap_setCell_same _ g (k * 4 + 3) _ 64 (.int .i64 (y.place : Int)) h3
 unfold RowK2
 rw [h4, <- setT xs k hk y]
 simp
end Go.Proofs.YtlkmegchaeokgaaGreatDoor
