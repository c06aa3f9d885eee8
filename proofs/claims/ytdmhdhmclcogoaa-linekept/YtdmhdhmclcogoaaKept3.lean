/- LineKept: what line.Parse hands out, held in the book of memory. -/
import Derived.Test.YtdmhdhmclcogoaaApartW
import Derived.Test.YtdmhdhmclcogoaaSameL
import Derived.Test.YtdmhdhmclcogoaaPlaceM
namespace Go.Proofs.Ytdmhdhmclcogoaa
open Go.ChangeShapes Go.WideShapes Go.ChangeAt Go.RowKit
set_option linter.unusedVariables false

/-- no two of the lists have one row -/
def Apart (es : List Ent) : Prop := ∀ (i j : Nat) (e1 e2 : Ent) (g : Nat), es[i]? = some e1 → es[j]? = some e2 → e1.a = some ⟨g, 0, none⟩ → e2.a = some ⟨g, 0, none⟩ → i = j

theorem apart_snoc {es : List Ent} {x : Ent} {F : Nat} (h : Apart es) (hF : ∀ e ∈ es, ∀ g, e.a = some ⟨g, 0, none⟩ → g < F) (hx : ∀ g, x.a = some ⟨g, 0, none⟩ → F ≤ g) : Apart (es ++ [x]) := by
  have key : ∀ (i : Nat) (e : Ent), (es ++ [x])[i]? = some e → (es[i]? = some e) ∨ (i = es.length ∧ e = x) := by
    intro i e hi
    rw [List.getElem?_append] at hi
    split at hi
    · exact .inl hi
    · have : i - es.length = 0 := by
        apply Decidable.byContradiction
        intro hn
        rw [List.getElem?_eq_none (by simp; omega)] at hi
        cases hi
      rw [this] at hi
      simp at hi
      exact .inr ⟨by omega, hi.symm⟩
  intro i j e1 e2 g h1 h2 g1 g2
  rcases key i e1 h1 with k1 | ⟨k1, rfl⟩
  · rcases key j e2 h2 with k2 | ⟨k2, rfl⟩
    · exact h i j e1 e2 g k1 k2 g1 g2
    · have := hF e1 (List.mem_of_getElem? k1) g g1
      have := hx g g2
      omega
  · rcases key j e2 h2 with k2 | ⟨k2, rfl⟩
    · have := hF e2 (List.mem_of_getElem? k2) g g2
      have := hx g g1
      omega
    · omega
theorem apart_drop {es : List Ent} (h : Apart es) (n : Nat) : Apart (es.drop n) := by
  intro i j e1 e2 g h1 h2 g1 g2
  rw [List.getElem?_drop] at h1 h2
  have := h _ _ e1 e2 g h1 h2 g1 g2
  omega


/-- the book at B holds at most m lists, in rows of their own, all of them ahead of block F; block X is none of its own -/
def Books (X : Nat) (w0 w : World) (B m F : Nat) : Prop :=
  B = w0.heap.size ∧ Below B w0 w ∧ F ≤ w.heap.size ∧ B < F ∧ ∃ es a1 a2 c1 c2 held, es.length ≤ m ∧ (0 < m → es ≠ []) ∧ BS w B es a1 a2 c1 c2 held ∧ Apart es ∧ (∀ e ∈ es, ∀ g, e.a = some ⟨g, 0, none⟩ → g < F) ∧ X < w.heap.size ∧ X ≠ B ∧ blk a1 ≠ some X ∧ blk a2 ≠ some X

/-- .. whatever X .. -/
def Books0 (w0 w : World) (B m : Nat) : Prop :=
  B = w0.heap.size ∧ Below B w0 w ∧ B < w.heap.size ∧ ∃ es a1 a2 c1 c2 held, es.length ≤ m ∧ (0 < m → es ≠ []) ∧ BS w B es a1 a2 c1 c2 held ∧ Apart es ∧ (∀ e ∈ es, ∀ g, e.a = some ⟨g, 0, none⟩ → g < w.heap.size)

theorem Books0.start (w : World) : Books0 w (w.alloc (.cells #[.slice none 0 0, .slice none 0 0, .int .i64 0, .bool false] 51)) w.heap.size 0 := by
  refine ⟨rfl, (Below.refl _ _).alloc (Nat.le_refl _) _, by simp, [], none, none, 0, 0, 0, Nat.le_refl _, fun h => by omega, ⟨⟨?_, rfl, rfl, ⟨Nat.zero_le _, .inl ⟨rfl, rfl, rfl⟩⟩, ⟨Nat.zero_le _, .inl ⟨rfl, rfl, rfl⟩⟩, fun g hg => by cases hg⟩, fun e he => by cases he⟩, fun i j e1 e2 g h1 => by simp at h1, fun e he => by cases he⟩
  exact heap_alloc_new w _

theorem Books.any {X : Nat} {w0 w : World} {B m F : Nat} (h : Books X w0 w B m F) : Books0 w0 w B m := by
  obtain ⟨h1, h2, h3, h4, es, a1, a2, c1, c2, held, e1, e2, e3, e5, e6, _⟩ := h
  exact ⟨h1, h2, by omega, es, a1, a2, c1, c2, held, e1, e2, e3, e5, fun e he g hg => by have := e6 e he g hg; omega⟩

theorem Books0.more {X : Nat} {w0 w w1 : World} {B m : Nat} (h : Books0 w0 w B m) (hb : Below w.heap.size w w1) (hX : w.heap.size ≤ X) (hX1 : X < w1.heap.size) : Books X w0 w1 B m w.heap.size := by
  obtain ⟨h1, h2, h4, es, a1, a2, c1, c2, held, e1, e2, ⟨e3, e4⟩, e5, e6⟩ := h
  have hk : K5 w w1 := fun k cur T _ _ hk => hb.block k (Array.getElem?_eq_some_iff.1 hk).1
  refine ⟨h1, h2.trans (hb.mono (by omega)), hb.size, h4, es, a1, a2, c1, c2, held, e1, e2, ⟨e3.kept fun k hk => hb.block k hk, fun e he => (e4 e he).kept hk⟩, e5, e6, hX1, by omega, fun e => ?_, fun e => ?_⟩
  · have := (e3.o1.lt e).2; omega
  · have := (e3.o2.lt e).2; omega

theorem keep_books {X : Nat} {w0 w : World} {B m F cap g : Nat} {L : List Tok} (h : Books X w0 w B m F) (hm : m ≤ 1999) (hr : OwnT w F (some ⟨g, 0, none⟩) cap L) (hL : L.length ≤ 1000) :
    Calls Try.prog 16 #[.pointer (some ⟨B, 0, none⟩), .slice (some ⟨g, 0, none⟩) L.length cap] w fun e w' => e = .returned (.tuple #[]) ∧ Books X w0 w' B (m + 1) (g + 1) ∧ K5 w w' ∧ w'.heap[X]? = w.heap[X]? ∧ Below B w w' := by
  obtain ⟨h1, h2, h3, h4, es, a1, a2, c1, c2, held, e1, e2, e3, e5, e6, x1, x2, x3, x4⟩ := h
  have hcap : cap ≤ 9223372036854775807 := by
    rcases hr.2 with ⟨x, _⟩ | ⟨g, c, cur, x, _, _, _, hcm, _⟩
    · simp only [Value.slice.injEq] at x; omega
    · simp only [Value.slice.injEq, true_and] at x; unfold maxLen at hcm; omega
  have hgF : F ≤ g ∧ g < w.heap.size := hr.lt g rfl
  refine (keep_any X B cap (some ⟨g, 0, none⟩) L es a1 a2 c1 c2 held w e3 (by omega) ⟨rfl, x1, x2, x3, x4⟩ (hr.mono (by omega)) hL hcap).mono ?_
  rintro e w' ⟨rfl, wa, wc, j, b1, b2, d1, d2, hd, hj, hS, hk, hb, hx⟩
  have hs := hb.size
  refine ⟨rfl, ⟨h1, h2.trans hb, by omega, by omega, _, b1, b2, d1, d2, hd, ?_, fun _ => ?_, hS, ?_, fun e he g' hg => ?_, by omega, hx.2.2.1, hx.2.2.2.1, hx.2.2.2.2⟩, hk, hx.1, hb⟩
  · simp
    omega
  · intro hnil
    have := congrArg List.length hnil
    simp at this
    omega
  · exact apart_drop (apart_snoc e5 e6 (fun g' hg => by cases hg; exact hgF.1)) j
  · rcases List.mem_append.1 (List.mem_of_mem_drop he) with h | h
    · have := e6 e h g' hg
      omega
    · simp at h
      subst h
      cases hg
      omega

theorem apart_books {w0 w : World} {B m : Nat} (h : Books0 w0 w B m) (hm : m ≤ 1999) (h0 : 0 < m) :
    Calls Try.prog 17 #[.pointer (some ⟨B, 0, none⟩), .func (.func 18) #[] #[]] w fun e w' => e = .returned (.bool true) ∧ Below B w0 w' := by
  obtain ⟨h1, h2, h4, es, a1, a2, c1, c2, held, e1, e2, e3, e5, e6⟩ := h
  have hne := e2 h0
  obtain ⟨G1, o1, rfl⟩ := e3.1.o1.some_of (by simpa using hne)
  obtain ⟨G2, o2, rfl⟩ := e3.1.o2.some_of (by simpa using hne)
  refine (apart_any B es G1 o1 G2 o2 c1 c2 held w e3 (by omega) e5).mono ?_
  rintro e w' ⟨rfl, hb⟩
  exact ⟨rfl, h2.trans hb⟩

set_option maxRecDepth 100000 in
/-- the book that holds nothing -/
theorem stays_none (B : Nat) (w : World) (q0 : w.cell? ⟨B, 0, none⟩ = some (.slice none 0 0)) (q3 : w.cell? ⟨B, 3, none⟩ = some (.bool false)) :
    Calls Try.prog 29 #[.pointer (some ⟨B, 0, none⟩)] w fun e w' => e = .returned (.bool true) ∧ w' = w := by
  go_enter Try.func29, Try.ntmps29
  go_wp2
  go_loop [3] (fun i => i = .int .i64 0) (fun _ => 0)
  case atStart => rfl
  case round =>
    subst hrel
    go_wp2
    go_ret
    exact ⟨rfl, rfl⟩

set_option maxRecDepth 100000 in
theorem apart_none (B : Nat) (w : World) (q0 : w.cell? ⟨B, 0, none⟩ = some (.slice none 0 0)) (q1 : w.cell? ⟨B, 1, none⟩ = some (.slice none 0 0)) (q2 : w.cell? ⟨B, 2, none⟩ = some (.int .i64 0)) (q3 : w.cell? ⟨B, 3, none⟩ = some (.bool false))
    (f0 : w.frozen? ⟨B, 0, none⟩ = false) (f1 : w.frozen? ⟨B, 1, none⟩ = false) (f2 : w.frozen? ⟨B, 2, none⟩ = false) :
    Calls Try.prog 17 #[.pointer (some ⟨B, 0, none⟩), .func (.func 18) #[] #[]] w fun e w' => e = .returned (.bool true) ∧ Below B w w' := by
  have hS := Hid.intro (stays_none B w q0 q3)
  go_enter Try.func17, Try.ntmps17
  go_wp2_with (go_at_call 29; refine (hS.out).mono ?_; rintro e w1 ⟨rfl, rfl⟩)
  go_loop [5] (fun i => i = .int .i64 0) (fun _ => 0)
  case atStart => rfl
  case round =>
    subst hrel
    go_wp2
    go_loop [8] (fun i => i = .int .i64 0) (fun _ => 0)
    case atStart => rfl
    case round =>
      subst hrel
      go_wp2
      go_ret
      exact ⟨rfl, (((Below.refl B w1).setCell (p := ⟨B, 0, none⟩) (Nat.le_refl _) _).setCell (p := ⟨B, 1, none⟩) (Nat.le_refl _) _).setCell (p := ⟨B, 2, none⟩) (Nat.le_refl _) _⟩
end Go.Proofs.Ytdmhdhmclcogoaa
