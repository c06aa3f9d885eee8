/- The walk of LexKept: what Tokens answers is new memory each time. -/
import Derived.Test.YtaanfphknnijeaaApartW
import Derived.Test.YtaanfphknnijeaaCutW
namespace Go.Proofs.Ytaanfphknnijeaa
open Go.ChangeShapes Go.WideShapes Go.ChangeAt Go.RowKit
set_option linter.unusedVariables false

/-- no two of the lists have one row -/
def Apart (es : List Ent) : Prop := ∀ (i j : Nat) (e1 e2 : Ent) (g : Nat), es[i]? = some e1 → es[j]? = some e2 → e1.a = some ⟨g, 0, none⟩ → e2.a = some ⟨g, 0, none⟩ → i = j

/-- the book at B holds at most m lists, in rows of their own, all of them ahead of block F -/
def Books (w0 w : World) (B m F : Nat) : Prop :=
  B = w0.heap.size ∧ Below B w0 w ∧ F ≤ w.heap.size ∧ B < F ∧ ∃ es a1 a2 c1 c2 held, es.length ≤ m ∧ (0 < m → es ≠ []) ∧ BS w B es a1 a2 c1 c2 held ∧ Apart es ∧ ∀ e ∈ es, ∀ g, e.a = some ⟨g, 0, none⟩ → g < F

theorem Books.start (w : World) : Books w (w.alloc (.cells #[.slice none 0 0, .slice none 0 0, .int .i64 0, .bool false] 43)) w.heap.size 0 (w.heap.size + 1) := by
  refine ⟨rfl, (Below.refl _ _).alloc (Nat.le_refl _) _, by simp, by omega, [], none, none, 0, 0, 0, Nat.le_refl _, fun h => by omega, ⟨⟨?_, rfl, rfl, ⟨Nat.zero_le _, .inl ⟨rfl, rfl, rfl⟩⟩, ⟨Nat.zero_le _, .inl ⟨rfl, rfl, rfl⟩⟩, fun g hg => by cases hg⟩, fun e he => by cases he⟩, fun i j e1 e2 g h1 => by simp at h1, fun e he => by cases he⟩
  exact heap_alloc_new w _

theorem Books.more {w0 w w1 : World} {B m : Nat} (h : Books w0 w B m w.heap.size) (hb : Below w.heap.size w w1) : Books w0 w1 B m w.heap.size := by
  obtain ⟨h1, h2, h3, h4, es, a1, a2, c1, c2, held, e1, e2, ⟨e3, e4⟩, e5, e6⟩ := h
  have hk : K5 w w1 := fun k cur hk => hb.block k (Array.getElem?_eq_some_iff.1 hk).1
  exact ⟨h1, h2.trans (hb.mono (by omega)), hb.size, h4, es, a1, a2, c1, c2, held, e1, e2, ⟨e3.kept fun k hk => hb.block k hk, fun e he => (e4 e he).kept hk⟩, e5, e6⟩

theorem Books.grow {w0 w : World} {B m F : Nat} (h : Books w0 w B m F) : Books w0 w B m w.heap.size := by
  obtain ⟨h1, h2, h3, h4, es, a1, a2, c1, c2, held, e1, e2, e3, e5, e6⟩ := h
  exact ⟨h1, h2, Nat.le_refl _, by omega, es, a1, a2, c1, c2, held, e1, e2, e3, e5, fun e he g hg => by have := e6 e he g hg; omega⟩

theorem apart_snoc {es : List Ent} {x : Ent} {F : Nat} (h : Apart es) (hF : ∀ e ∈ es, ∀ g, e.a = some ⟨g, 0, none⟩ → g < F) (hx : ∀ g, x.a = some ⟨g, 0, none⟩ → F ≤ g) : Apart (es ++ [x]) := by
  have key : ∀ (i : Nat) (e : Ent), (es ++ [x])[i]? = some e → (es[i]? = some e) ∨ (i = es.length ∧ e = x) := by
    intro i e hi
    rw [List.getElem?_append] at hi
    split at hi
    · exact .inl hi
    · have : i - es.length = 0 := by
        apply Decidable.byContradiction
        intro hn
        rw [List.getElem?_eq_none (by simp; omega)] at hi
        cases hi
      rw [this] at hi
      simp at hi
      exact .inr ⟨by omega, hi.symm⟩
  intro i j e1 e2 g h1 h2 g1 g2
  rcases key i e1 h1 with k1 | ⟨k1, rfl⟩
  · rcases key j e2 h2 with k2 | ⟨k2, rfl⟩
    · exact h i j e1 e2 g k1 k2 g1 g2
    · have := hF e1 (List.mem_of_getElem? k1) g g1
      have := hx g g2
      omega
  · rcases key j e2 h2 with k2 | ⟨k2, rfl⟩
    · have := hF e2 (List.mem_of_getElem? k2) g g2
      have := hx g g1
      omega
    · omega
theorem apart_drop {es : List Ent} (h : Apart es) (n : Nat) : Apart (es.drop n) := by
  intro i j e1 e2 g h1 h2 g1 g2
  rw [List.getElem?_drop] at h1 h2
  have := h _ _ e1 e2 g h1 h2 g1 g2
  omega

theorem keep_books {w0 w : World} {B m F cap : Nat} {a0 : Option Addr} {L : List Tok} (h : Books w0 w B m F) (hm : m ≤ 99) (hr : OwnT w F a0 cap L) (hL : L.length ≤ 1000) :
    Calls Try.prog 19 #[.pointer (some ⟨B, 0, none⟩), .slice a0 L.length cap] w fun e w' => e = .returned (.tuple #[]) ∧ Books w0 w' B (m + 1) w'.heap.size := by
  obtain ⟨h1, h2, h3, h4, es, a1, a2, c1, c2, held, e1, e2, e3, e5, e6⟩ := h
  have hcap : cap ≤ 9223372036854775807 := by
    rcases hr.2 with ⟨x, _⟩ | ⟨g, c, cur, x, _, _, _, hcm, _⟩
    · simp only [Value.slice.injEq] at x; omega
    · simp only [Value.slice.injEq, true_and] at x; unfold maxLen at hcm; omega
  have hgF : ∀ g, a0 = some ⟨g, 0, none⟩ → F ≤ g ∧ g < w.heap.size := fun g hg => by
    subst hg
    exact hr.lt g rfl
  refine (keep_any B cap a0 L es a1 a2 c1 c2 held w e3 (by omega) (hr.mono (by omega)) hL hcap).mono ?_
  rintro e w' ⟨rfl, wa, wc, j, b1, b2, d1, d2, hd, hj, hS, hk, hb⟩
  refine ⟨rfl, h1, h2.trans hb, Nat.le_refl _, by have := hb.size; omega, _, b1, b2, d1, d2, hd, ?_, fun _ => ?_, hS, ?_, fun e he g hg => ?_⟩
  · simp
    omega
  · intro hnil
    have := congrArg List.length hnil
    simp at this
    omega
  · exact apart_drop (apart_snoc e5 e6 (fun g hg => (hgF g hg).1)) j
  · have hs := hb.size
    rcases List.mem_append.1 (List.mem_of_mem_drop he) with h | h
    · have := e6 e h g hg
      omega
    · simp at h
      subst h
      have := (hgF g hg).2
      omega

theorem apart_books {w0 w : World} {B m F : Nat} (h : Books w0 w B m F) (hm : m ≤ 99) (h0 : 0 < m) :
    Calls Try.prog 20 #[.pointer (some ⟨B, 0, none⟩), .func (.func 21) #[] #[]] w fun e w' => e = .returned (.bool true) ∧ Below B w0 w' := by
  obtain ⟨h1, h2, h3, h4, es, a1, a2, c1, c2, held, e1, e2, e3, e5, e6⟩ := h
  have hne := e2 h0
  obtain ⟨G1, o1, rfl⟩ := e3.1.o1.some_of (by simpa using hne)
  obtain ⟨G2, o2, rfl⟩ := e3.1.o2.some_of (by simpa using hne)
  refine (apart_any B es G1 o1 G2 o2 c1 c2 held w e3 (by omega) e5).mono ?_
  rintro e w' ⟨rfl, hb⟩
  exact ⟨rfl, h2.trans hb⟩

/-- what Tokens hands out: a list of its own, or nil -/
theorem tokens_own (s : ByteArray) (hs : s.size ≤ 1000) (w : World) :
    ∃ L : List Tok, L.length ≤ 1000 ∧ ∃ p q : Int, ∀ w, Calls Try.prog 9 #[.string s] w fun e w' => Below w.heap.size w w' ∧ ∃ a c, e = .returned (.tuple #[.slice a L.length c, .int .i64 p, .int .i64 q]) ∧ OwnT w' w.heap.size a c L := by
  cases hsc : scan (bs s) 0 with
  | error p =>
    refine ⟨[], by simp, p, 20, fun w => (tokens_bad s (by omega) p hsc w).mono ?_⟩
    rintro e w' ⟨hb, rfl⟩
    exact ⟨hb, none, 0, rfl, World.ownsRow_nil _ _ _ _⟩
  | ok ts =>
    have hlen := scan_len _ _ _ hsc
    rw [bs_length] at hlen
    refine ⟨ts, by omega, 0, 0, fun w => (tokens_ok s (by omega) ts hsc w).mono ?_⟩
    rintro e w' ⟨hb, v, rfl, hown⟩
    obtain ⟨a, c, rfl⟩ := own_any' hown
    exact ⟨hb, a, c, rfl, hown⟩

theorem Books.bel {w0 w : World} {B m F : Nat} (h : Books w0 w B m F) : Below w0.heap.size w0 w := by
  have := h.2.1
  rwa [h.1] at this

set_option maxRecDepth 100000 in
theorem lexKept_walk (s : ByteArray) (hs : s.size ≤ maxLen) (w : World) :
    Calls Try.prog 8 #[.string s] w fun e w' => e = .returned (.bool true) ∧ Below w.heap.size w w' := by
  unfold maxLen at hs
  have hf1 : ∀ w, Calls Try.prog 13 #[.string s, .int .i64 500] w fun e w' => e = .returned (.string (fewS s 500)) ∧ w' = w := fun w => few_big s 500 (by omega) (by omega) w
  have z1 := fewS_size s 500
  obtain ⟨s1, hs1⟩ : ∃ s1, s1 = fewS s 500 := ⟨_, rfl⟩
  rw [← hs1] at hf1 z1
  clear hs1
  have hF1 := Hid.intro hf1
  clear hf1
  obtain ⟨L, hL, p, q, hT0⟩ := tokens_own s1 (by omega) w
  have hT := Hid.intro hT0
  clear hT0
  have hB0 := Hid.intro (Books.start w)
  go_enter Try.func8, Try.ntmps8
  go_wp2_with (go_at_call 13; with_reducible refine (hF1.out _).mono ?_; rintro e w' ⟨rfl, rfl⟩)
  go_loopw [4] (fun i wr => ∃ k : Nat, k ≤ 2 ∧ i = .int .i64 k ∧ Hid (Books w' wr w'.heap.size k wr.heap.size)) (fun i _ => 2 - (intOf i).toNat)
  case atStart => exact ⟨0, by omega, rfl, hB0.out.grow⟩
  case round =>
    obtain ⟨k, hk, rfl, hB⟩ := hrel
    clear hB0
    by_cases hlt : k < 2
    · go_wp2_with (first
        | (go_at_call 9; with_reducible refine (hT.out _).mono ?_; rintro e w1 ⟨hb1, a1, c1, rfl, hown1⟩)
        | (go_at_call 19; refine (keep_books (hB.out.more hb1) (by omega) hown1 hL).mono ?_; rintro e w2 ⟨rfl, hB2⟩; have hB2H := Hid.intro hB2; clear hB2))
      all_goals first
        | omega
        | skip
      go_roundw
      case rel => exact ⟨k + 1, by omega, by go_num, hB2H⟩
      case measure => simp [intOf]; omega
    · have e : k = 2 := by omega
      subst e
      go_wp2_with (first
        | (go_at_call 20; refine (apart_books hB.out (by omega) (by omega)).mono ?_; rintro e w5 ⟨rfl, hb5⟩)
        | (go_at_call 12; refine (known_any _).mono ?_; rintro e w6 ⟨rfl, hb6⟩))
      go_ret
      exact ⟨rfl, hb5.trans (hb6.mono hb5.size)⟩
end Go.Proofs.Ytaanfphknnijeaa
