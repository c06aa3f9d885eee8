/- The tokens in memory, as a reader meets them; the runs that every statement asks besides; few. -/
import Derived.Test.YtaanfphknnijeaaTok4
import Derived.Laws.Strings3
namespace Go.Proofs.Ytaanfphknnijeaa
open Go.ChangeShapes Go.WideShapes Go.ChangeAt Go.RowKit
set_option linter.unusedVariables false
set_option maxRecDepth 100000

/-- the scan by a number of steps, for closed texts -/
def scanF : Nat → List UInt8 → Nat → Except Nat (List Tok)
  | 0, _, _ => .ok []
  | _ + 1, [], _ => .ok []
  | f + 1, b :: r', at_ =>
    if (b.toNat : Int) = 59 then .ok []
    else if isBl (b.toNat : Int) = true then scanF f r' (at_ + 1)
    else match tokAt (b :: r') with
      | none => .error at_
      | some (kind, n, k) =>
        match scanF f (r'.drop (k - 1)) (at_ + k) with
        | .ok ts => .ok ({ kind := kind, text := (b :: r').take k, num := n, place := at_ } :: ts)
        | .error p => .error p

theorem scan_eq (f : Nat) : ∀ (r : List UInt8) (a : Nat), r.length ≤ f → scan r a = scanF f r a := by
  induction f with
  | zero => intro r a h; have : r = [] := List.eq_nil_of_length_eq_zero (by omega); subst this; unfold scan scanF; rfl
  | succ f ih =>
    intro r a h
    cases r with
    | nil => unfold scan scanF; rfl
    | cons b r =>
      simp only [List.length_cons] at h
      unfold scan scanF
      rw [ih r (a + 1) (by omega)]
      split
      · rfl
      · split
        · rfl
        · cases tokAt (b :: r) with
          | none => rfl
          | some x =>
            obtain ⟨kind, n, k⟩ := x
            simp only
            rw [ih (r.drop (k - 1)) (a + k) (by rw [List.length_drop]; omega)]
            cases scanF f (r.drop (k - 1)) (a + k) <;> rfl

theorem rowOf_get (ts : List Tok) (i f : Nat) (t : Tok) (hi : ts[i]? = some t) (hf : f < 4) : (rowOf ts)[i * 4 + f]? = t.cells[f]? := by
  induction ts generalizing i with
  | nil => simp at hi
  | cons x ts ih =>
    have hx : rowOf (x :: ts) = x.cells ++ rowOf ts := by simp [rowOf]
    have hl : x.cells.length = 4 := rfl
    rw [hx]
    cases i with
    | zero =>
      simp at hi
      subst hi
      rw [Nat.zero_mul, Nat.zero_add, List.getElem?_append_left (by omega)]
    | succ i =>
      simp at hi
      rw [List.getElem?_append_right (by omega), hl, show (i + 1) * 4 + f - 4 = i * 4 + f by omega]
      exact ih i hi

/-- token i lies in the block g -/
structure TokAt (w : World) (g i : Nat) (t : Tok) : Prop where
  kind : w.cell? ⟨g, i * 4, none⟩ = some (.int .i64 t.kind)
  text : w.cell? ⟨g, i * 4 + 1, none⟩ = some (.string (str t.text))
  num : w.cell? ⟨g, i * 4 + 2, none⟩ = some (.int .u32 t.num)
  place : w.cell? ⟨g, i * 4 + 3, none⟩ = some (.int .i64 (t.place : Int))

theorem rowOf_length (ts : List Tok) : (rowOf ts).length = ts.length * 4 := by
  induction ts with
  | nil => rfl
  | cons x ts ih =>
    have hx : rowOf (x :: ts) = x.cells ++ rowOf ts := by simp [rowOf]
    have hl : x.cells.length = 4 := rfl
    rw [hx, List.length_append, ih, hl, List.length_cons]
    omega

theorem tok_at {w : World} {B g n cap : Nat} {T : TypeId} {ts : List Tok} (h : w.ownsRow B T 4 (.slice (some ⟨g, 0, none⟩) n cap) n (rowOf ts)) (i : Nat) (t : Tok) (hi : ts[i]? = some t) : TokAt w g i t := by
  have hl := h.1
  rw [rowOf_length] at hl
  have hlt : i < ts.length := by
    apply Decidable.byContradiction
    intro hn
    rw [List.getElem?_eq_none (by omega)] at hi
    cases hi
  have key : ∀ f, f < 4 → w.cell? ⟨g, i * 4 + f, none⟩ = t.cells[f]? := fun f hf => by rw [h.cellAt _ (by omega), rowOf_get ts i f t hi hf]
  exact ⟨key 0 (by omega), key 1 (by omega), key 2 (by omega), key 3 (by omega)⟩

theorem TokAt.below {w w' : World} {g i : Nat} {t : Tok} {B : Nat} (h : TokAt w g i t) (hb : Below B w w') (hg : g < B) : TokAt w' g i t :=
  ⟨by rw [hb.cell (p := ⟨g, i * 4, none⟩) hg]; exact h.kind, by rw [hb.cell (p := ⟨g, i * 4 + 1, none⟩) hg]; exact h.text, by rw [hb.cell (p := ⟨g, i * 4 + 2, none⟩) hg]; exact h.num, by rw [hb.cell (p := ⟨g, i * 4 + 3, none⟩) hg]; exact h.place⟩

theorem tokens_ok (s : ByteArray) (hs : s.size ≤ 1100000) (ts : List Tok) (h : scan (bs s) 0 = .ok ts) (w : World) :
    Calls Try.prog 9 #[.string s] w fun e w' => Below w.heap.size w w' ∧ ∃ v, e = .returned (.tuple #[v, .int .i64 0, .int .i64 0]) ∧ w'.ownsRow w.heap.size 31 4 v ts.length (rowOf ts) := by
  have := tokens_any s hs w
  rw [h] at this
  exact this

theorem tokens_bad (s : ByteArray) (hs : s.size ≤ 1100000) (p : Nat) (h : scan (bs s) 0 = .error p) (w : World) :
    Calls Try.prog 9 #[.string s] w fun e w' => Below w.heap.size w w' ∧ e = .returned (.tuple #[.slice none 0 0, .int .i64 (p : Int), .int .i64 20]) := by
  have := tokens_any s hs w
  rw [h] at this
  exact this

theorem own_form {w : World} {B n : Nat} {T : TypeId} {v : Value} {xs : List Value} (h : w.ownsRow B T 4 v (n + 1) xs) : ∃ g cap, v = .slice (some ⟨g, 0, none⟩) (n + 1) cap ∧ B ≤ g ∧ g < w.heap.size := by
  obtain ⟨hl, ⟨_, h0⟩ | ⟨g, cap, cur, hv, hbg, hg, r⟩⟩ := h
  · omega
  · refine ⟨g, cap, hv, hbg, ?_⟩
    apply Decidable.byContradiction
    intro hn
    rw [Array.getElem?_eq_none (by omega)] at hg
    cases hg

def knownToks : List Tok := [⟨1, [97], 0, 0⟩, ⟨3, [58], 0, 1⟩, ⟨1, [106, 109, 112], 0, 3⟩, ⟨1, [98], 0, 7⟩, ⟨3, [43], 0, 8⟩, ⟨2, [48, 120, 49, 102], 31, 9⟩]
theorem known_scan : scan (bs ⟨#[97, 58, 32, 106, 109, 112, 32, 98, 43, 48, 120, 49, 102, 32, 59, 32, 120]⟩) 0 = .ok knownToks := by
  rw [scan_eq 17 _ _ (by decide)]
  kernel_rfl
theorem known_bad : scan (bs ⟨#[97, 32, 36]⟩) 0 = .error 2 := by
  rw [scan_eq 3 _ _ (by decide)]
  kernel_rfl

theorem known_first (w : World) : Calls Try.prog 9 #[.string ⟨#[97, 58, 32, 106, 109, 112, 32, 98, 43, 48, 120, 49, 102, 32, 59, 32, 120]⟩] w fun e w' => Below w.heap.size w w' ∧
    ∃ g cap, e = .returned (.tuple #[.slice (some ⟨g, 0, none⟩) 6 cap, .int .i64 0, .int .i64 0]) ∧ g < w'.heap.size ∧ TokAt w' g 0 ⟨1, [97], 0, 0⟩ ∧ TokAt w' g 5 ⟨2, [48, 120, 49, 102], 31, 9⟩ := by
  refine (tokens_ok _ (by decide) _ known_scan w).mono ?_
  rintro e w' ⟨hb, v, rfl, hown⟩
  obtain ⟨g, cap, rfl, _, hg⟩ := own_form (n := 5) hown
  exact ⟨hb, g, cap, rfl, hg, tok_at hown 0 _ rfl, tok_at hown 5 _ rfl⟩

theorem str_toList (l : List UInt8) : (str l).toList = l := by
  rw [Lib.toList_data]
  rfl

theorem known_any (w : World) : Calls Try.prog 12 #[] w fun e w' => e = .returned (.bool true) ∧ Below w.heap.size w w' := by
  have hH1 := Hid.intro (known_first w)
  have hH2 := Hid.intro (fun w => tokens_bad _ (by decide) _ known_bad w)
  have e1 := str_toList [97]
  have e2 := str_toList [48, 120, 49, 102]
  go_enter Try.func12, Try.ntmps12
  go_wp2_with (go_at_call 9; first
    | (with_reducible refine (hH1.out).mono ?_; rintro e w1 ⟨hb1, g, cap, rfl, hg, ht0, ht5⟩)
    | (with_reducible refine (hH2.out _).mono ?_; rintro e w2 ⟨hb2, rfl⟩; obtain ⟨k0, k1, k2, k3⟩ := ht0.below hb2 hg; obtain ⟨k4, k5, k6, k7⟩ := ht5.below hb2 hg; simp only [Nat.zero_mul, Nat.zero_add] at k0 k1 k2 k3; simp only [Nat.reduceMul, Nat.reduceAdd] at k4 k5 k6 k7))
  go_ret
  exact ⟨rfl, hb1.trans (hb2.mono hb1.size)⟩

/-- the first bytes of a text -/
def fewS (s : ByteArray) (n : Nat) : ByteArray := if n < s.size then s.extract 0 n else s

theorem fewS_size (s : ByteArray) (n : Nat) : (fewS s n).size ≤ n := by
  unfold fewS
  split
  · simp; omega
  · omega

theorem few_any (s : ByteArray) (n : Nat) (hs : s.size ≤ 4611686018427387904) (hn : n ≤ 1000000) (w : World) :
    Calls Try.prog 13 #[.string s, .int .i64 (n : Int)] w fun e w' => e = .returned (.string (fewS s n)) ∧ w' = w := by
  unfold fewS
  by_cases h : n < s.size
  · rw [if_pos h]
    go_enter Try.func13, Try.ntmps13
    go_wp2
    all_goals first
      | omega
      | (go_ret; exact ⟨rfl, rfl⟩)
  · rw [if_neg h]
    go_enter Try.func13, Try.ntmps13
    go_wp2
    all_goals first
      | omega
      | (go_ret; exact ⟨rfl, rfl⟩)
end Go.Proofs.Ytaanfphknnijeaa
