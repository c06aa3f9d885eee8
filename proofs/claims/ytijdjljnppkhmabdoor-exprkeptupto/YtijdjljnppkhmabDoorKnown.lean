/- The tokens in memory, as a reader meets them; few. -/
import Derived.Test.YtijdjljnppkhmabDoorTok4
import Derived.Laws.Strings3
namespace Go.Proofs.YtijdjljnppkhmabDoor
open Go.ChangeShapes Go.WideShapes Go.ChangeAt Go.RowKit
set_option linter.unusedVariables false
set_option maxRecDepth 100000

/-- the scan by a number of steps, for closed texts -/
def scanF : Nat → List UInt8 → Nat → Except Nat (List Tok)
  | 0, _, _ => .ok []
  | _ + 1, [], _ => .ok []
  | f + 1, b :: r', at_ =>
    if (b.toNat : Int) = 59 then .ok []
    else if isBl (b.toNat : Int) = true then scanF f r' (at_ + 1)
    else match tokAt (b :: r') with
      | none => .error at_
      | some (kind, n, k) =>
        match scanF f (r'.drop (k - 1)) (at_ + k) with
        | .ok ts => .ok ({ kind := kind, text := (b :: r').take k, num := n, place := at_ } :: ts)
        | .error p => .error p

theorem scan_eq (f : Nat) : ∀ (r : List UInt8) (a : Nat), r.length ≤ f → scan r a = scanF f r a := by
  induction f with
  | zero => intro r a h; have : r = [] := List.eq_nil_of_length_eq_zero (by omega); subst this; unfold scan scanF; rfl
  | succ f ih =>
    intro r a h
    cases r with
    | nil => unfold scan scanF; rfl
    | cons b r =>
      simp only [List.length_cons] at h
      unfold scan scanF
      rw [ih r (a + 1) (by omega)]
      split
      · rfl
      · split
        · rfl
        · cases tokAt (b :: r) with
          | none => rfl
          | some x =>
            obtain ⟨kind, n, k⟩ := x
            simp only
            rw [ih (r.drop (k - 1)) (a + k) (by rw [List.length_drop]; omega)]
            cases scanF f (r.drop (k - 1)) (a + k) <;> rfl

theorem rowOf_get (ts : List Tok) (i f : Nat) (t : Tok) (hi : ts[i]? = some t) (hf : f < 4) : (rowOf ts)[i * 4 + f]? = t.cells[f]? := by
  induction ts generalizing i with
  | nil => simp at hi
  | cons x ts ih =>
    have hx : rowOf (x :: ts) = x.cells ++ rowOf ts := by simp [rowOf]
    have hl : x.cells.length = 4 := rfl
    rw [hx]
    cases i with
    | zero =>
      simp at hi
      subst hi
      rw [Nat.zero_mul, Nat.zero_add, List.getElem?_append_left (by omega)]
    | succ i =>
      simp at hi
      rw [List.getElem?_append_right (by omega), hl, show (i + 1) * 4 + f - 4 = i * 4 + f by omega]
      exact ih i hi

/-- token i lies in the block g -/
structure TokAt (w : World) (g i : Nat) (t : Tok) : Prop where
  kind : w.cell? ⟨g, i * 4, none⟩ = some (.int .i64 t.kind)
  text : w.cell? ⟨g, i * 4 + 1, none⟩ = some (.string (str t.text))
  num : w.cell? ⟨g, i * 4 + 2, none⟩ = some (.int .u32 t.num)
  place : w.cell? ⟨g, i * 4 + 3, none⟩ = some (.int .i64 (t.place : Int))

theorem rowOf_length (ts : List Tok) : (rowOf ts).length = ts.length * 4 := by
  induction ts with
  | nil => rfl
  | cons x ts ih =>
    have hx : rowOf (x :: ts) = x.cells ++ rowOf ts := by simp [rowOf]
    have hl : x.cells.length = 4 := rfl
    rw [hx, List.length_append, ih, hl, List.length_cons]
    omega

theorem tok_at {w : World} {B g n cap : Nat} {T : TypeId} {ts : List Tok} (h : w.ownsRow B T 4 (.slice (some ⟨g, 0, none⟩) n cap) n (rowOf ts)) (i : Nat) (t : Tok) (hi : ts[i]? = some t) : TokAt w g i t := by
  have hl := h.1
  rw [rowOf_length] at hl
  have hlt : i < ts.length := by
    apply Decidable.byContradiction
    intro hn
    rw [List.getElem?_eq_none (by omega)] at hi
    cases hi
  have key : ∀ f, f < 4 → w.cell? ⟨g, i * 4 + f, none⟩ = t.cells[f]? := fun f hf => by rw [h.cellAt _ (by omega), rowOf_get ts i f t hi hf]
  exact ⟨key 0 (by omega), key 1 (by omega), key 2 (by omega), key 3 (by omega)⟩

theorem TokAt.below {w w' : World} {g i : Nat} {t : Tok} {B : Nat} (h : TokAt w g i t) (hb : Below B w w') (hg : g < B) : TokAt w' g i t :=
  ⟨by rw [hb.cell (p := ⟨g, i * 4, none⟩) hg]; exact h.kind, by rw [hb.cell (p := ⟨g, i * 4 + 1, none⟩) hg]; exact h.text, by rw [hb.cell (p := ⟨g, i * 4 + 2, none⟩) hg]; exact h.num, by rw [hb.cell (p := ⟨g, i * 4 + 3, none⟩) hg]; exact h.place⟩

theorem tokens_ok (s : ByteArray) (hs : s.size ≤ 1100000) (ts : List Tok) (h : scan (bs s) 0 = .ok ts) (w : World) :
    Calls Tryd.prog 77 #[.string s] w fun e w' => Below w.heap.size w w' ∧ ∃ v, e = .returned (.tuple #[v, .int .i64 0, .int .i64 0]) ∧ w'.ownsRow w.heap.size 60 4 v ts.length (rowOf ts) := by
  have := tokens_any s hs w
  rw [h] at this
  exact this

theorem tokens_bad (s : ByteArray) (hs : s.size ≤ 1100000) (p : Nat) (h : scan (bs s) 0 = .error p) (w : World) :
    Calls Tryd.prog 77 #[.string s] w fun e w' => Below w.heap.size w w' ∧ e = .returned (.tuple #[.slice none 0 0, .int .i64 (p : Int), .int .i64 20]) := by
  have := tokens_any s hs w
  rw [h] at this
  exact this

theorem own_form {w : World} {B n : Nat} {T : TypeId} {v : Value} {xs : List Value} (h : w.ownsRow B T 4 v (n + 1) xs) : ∃ g cap, v = .slice (some ⟨g, 0, none⟩) (n + 1) cap ∧ B ≤ g ∧ g < w.heap.size := by
  obtain ⟨hl, ⟨_, h0⟩ | ⟨g, cap, cur, hv, hbg, hg, r⟩⟩ := h
  · omega
  · refine ⟨g, cap, hv, hbg, ?_⟩
    apply Decidable.byContradiction
    intro hn
    rw [Array.getElem?_eq_none (by omega)] at hg
    cases hg

theorem str_toList (l : List UInt8) : (str l).toList = l := by
  rw [Lib.toList_data]
  rfl

/-- the first bytes of a text -/
def fewS (s : ByteArray) (n : Nat) : ByteArray := if n < s.size then s.extract 0 n else s

theorem fewS_size (s : ByteArray) (n : Nat) : (fewS s n).size ≤ n := by
  unfold fewS
  split
  · simp; omega
  · omega

theorem few_any (s : ByteArray) (n : Nat) (hs : s.size ≤ 4611686018427387904) (hn : n ≤ 1000000) (w : World) :
    Calls Tryd.prog 8 #[.string s, .int .i64 (n : Int)] w fun e w' => e = .returned (.string (fewS s n)) ∧ w' = w := by
  unfold fewS
  by_cases h : n < s.size
  · rw [if_pos h]
    go_enter Tryd.func8, Tryd.ntmps8
    go_wp2
    all_goals first
      | omega
      | (go_ret; exact ⟨rfl, rfl⟩)
  · rw [if_neg h]
    go_enter Tryd.func8, Tryd.ntmps8
    go_wp2
    all_goals first
      | omega
      | (go_ret; exact ⟨rfl, rfl⟩)
end Go.Proofs.YtijdjljnppkhmabDoor
