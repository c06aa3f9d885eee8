/- Lists of operations in memory, held against each other: book.Same. -/
import Derived.Test.YtnlbfhjalnlngaaDoorRefF
import Derived.Deep.QuietTactic
import Derived.BigQuiet
import Derived.WalkSmall
import Derived.WalkSpells
namespace Go.Proofs.YtnlbfhjalnlngaaDoor
open Go.ChangeShapes Go.WideShapes Go.ChangeAt Go.RowKit
set_option linter.unusedVariables false
set_option maxRecDepth 100000

abbrev Tok := List UInt8 × Int × Int
def rowOf (ts : List Tok) : List Value := ts.flatMap opCells
structure TokAt (w : World) (g i : Nat) (t : Tok) : Prop where
  name : w.cell? ⟨g, i * 3, none⟩ = some (.string (str t.1))
  byt : w.cell? ⟨g, i * 3 + 1, none⟩ = some (.int .u8 t.2.1)
  shp : w.cell? ⟨g, i * 3 + 2, none⟩ = some (.int .i64 t.2.2)
theorem TokAt.below {w w' : World} {g i B : Nat} {t : Tok} (h : TokAt w g i t) (hb : Below B w w') (hg : g < B) : TokAt w' g i t :=
  ⟨(hb.cell (p := ⟨g, i * 3, none⟩) hg).trans h.name, (hb.cell (p := ⟨g, i * 3 + 1, none⟩) hg).trans h.byt, (hb.cell (p := ⟨g, i * 3 + 2, none⟩) hg).trans h.shp⟩
theorem rowOf_length (ts : List Tok) : (rowOf ts).length = ts.length * 3 := by
  induction ts with
  | nil => rfl
  | cons x ts ih =>
    have hx : rowOf (x :: ts) = opCells x ++ rowOf ts := by simp [rowOf]
    have hl : (opCells x).length = 3 := rfl
    rw [hx, List.length_append, ih, hl, List.length_cons]
    omega
theorem rowOf_get (ts : List Tok) (i f : Nat) (t : Tok) (hi : ts[i]? = some t) (hf : f < 3) : (rowOf ts)[i * 3 + f]? = (opCells t)[f]? := flat_at opCells 3 (fun _ => rfl) ts i f t hi hf
theorem tok_at {w : World} {B g n cap : Nat} {T : TypeId} {ts : List Tok} (h : w.ownsRow B T 3 (.slice (some ⟨g, 0, none⟩) n cap) n (rowOf ts)) (i : Nat) (t : Tok) (hi : ts[i]? = some t) : TokAt w g i t := by
  have hl := h.1
  rw [rowOf_length] at hl
  have hlt : i < ts.length := (List.getElem?_eq_some_iff.1 hi).1
  have key : ∀ f, f < 3 → w.cell? ⟨g, i * 3 + f, none⟩ = (opCells t)[f]? := fun f hf => by rw [h.cellAt _ (by omega), rowOf_get ts i f t hi hf]
  exact ⟨(key 0 (by omega)).trans rfl, (key 1 (by omega)).trans rfl, (key 2 (by omega)).trans rfl⟩
theorem own_form {w : World} {B n : Nat} {T : TypeId} {v : Value} {xs : List Value} (h : w.ownsRow B T 3 v (n + 1) xs) : ∃ g cap, v = .slice (some ⟨g, 0, none⟩) (n + 1) cap ∧ B ≤ g ∧ g < w.heap.size := by
  obtain ⟨hl, ⟨_, h0⟩ | ⟨g, cap, cur, hv, hbg, hg, r⟩⟩ := h
  · omega
  · exact ⟨g, cap, hv, hbg, (Array.getElem?_eq_some_iff.1 hg).1⟩

/-- the tokens ts lie from a on -/
def TokLies (w : World) (a : Option Addr) (ts : List Tok) : Prop := ts = [] ∨ ∃ g, a = some ⟨g, 0, none⟩ ∧ g < w.heap.size ∧ ∀ i t, ts[i]? = some t → TokAt w g i t

theorem TokLies.below {w w' : World} {a : Option Addr} {ts : List Tok} {B : Nat} (h : TokLies w a ts) (hb : Below B w w') (hB : w.heap.size ≤ B) : TokLies w' a ts := by
  rcases h with h | ⟨g, ha, hg, h⟩
  · exact .inl h
  · exact .inr ⟨g, ha, Nat.lt_of_lt_of_le hg hb.size, fun i t hi => (h i t hi).below hb (by omega)⟩

theorem own_any' {w : World} {B n : Nat} {T : TypeId} {v : Value} {xs : List Value} (h : w.ownsRow B T 3 v n xs) : ∃ a cap, v = .slice a n cap := by
  obtain ⟨hl, ⟨hv, h0⟩ | ⟨g, cap, cur, hv, r⟩⟩ := h
  · exact ⟨none, 0, by rw [hv, h0]⟩
  · exact ⟨_, cap, hv⟩

theorem own_lies {w : World} {B : Nat} {T : TypeId} {v : Value} {ts : List Tok} (h : w.ownsRow B T 3 v ts.length (rowOf ts)) : ∃ a cap, v = .slice a ts.length cap ∧ TokLies w a ts := by
  cases ts with
  | nil =>
    obtain ⟨a, cap, hv⟩ := own_any' h
    exact ⟨a, cap, hv, .inl rfl⟩
  | cons t ts =>
    obtain ⟨g, cap, rfl, _, hg⟩ := own_form (n := ts.length) h
    exact ⟨_, cap, rfl, .inr ⟨g, rfl, hg, fun i x hi => tok_at h i x hi⟩⟩

theorem same_eq (a1 a2 : Option Addr) (c1 c2 : Nat) (xs : List Tok) (w : World) (h1 : TokLies w a1 xs) (h2 : TokLies w a2 xs) (hm : xs.length ≤ 4611686018427387904) :
    Calls Tryd.prog 32 #[.slice a1 xs.length c1, .slice a2 xs.length c2] w fun e w' => e = .returned (.bool true) ∧ ∃ n, w' = w.drewN n := by
  obtain ⟨n0, hn0⟩ : ∃ n0, n0 = xs.length := ⟨_, rfl⟩
  rw [← hn0] at hm ⊢
  by_cases h0 : n0 = 0
  · subst h0
    go_enter Tryd.func32, Tryd.ntmps32
    go_wp2
    go_loop [5] (fun i => i = .int .i64 0) (fun _ => 0)
    case atStart => rfl
    case round =>
      subst hrel
      go_wp2
      go_ret
      exact ⟨rfl, 0, rfl⟩
  · rcases h1 with rfl | ⟨g1, rfl, _, hc1⟩
    · simp at hn0; omega
    · rcases h2 with rfl | ⟨g2, rfl, _, hc2⟩
      · simp at hn0; omega
      · have hH1 := Hid.intro hc1
        have hH2 := Hid.intro hc2
        have hnH := Hid.intro hn0
        clear hc1 hc2 hn0
        go_enter Tryd.func32, Tryd.ntmps32
        go_wp2
        go_loopw [5] (fun i wr => ∃ k n : Nat, k ≤ n0 ∧ i = .int .i64 k ∧ wr = w.drewN n) (fun i _ => n0 - (intOf i).toNat)
        case atStart => exact ⟨0, 0, Nat.zero_le _, rfl, rfl⟩
        case round =>
          obtain ⟨k, n, hk, rfl, rfl⟩ := hrel
          by_cases hlt : k < n0
          · obtain ⟨t, ht⟩ : ∃ t, xs[k]? = some t := ⟨xs[k]'(by rw [← hnH.out]; exact hlt), List.getElem?_eq_getElem _⟩
            obtain ⟨q0, q1, q2⟩ := hH1.out k t ht
            obtain ⟨p0, p1, p2⟩ := hH2.out k t ht
            clear ht
            go_wp2
            go_quiet (fail)
            go_wp2
            all_goals first
              | omega
              | skip
            go_roundw
            case rel => exact ⟨k + 1, n + nq, by omega, by go_num, by simp⟩
            case measure => simp [intOf]; omega
          · go_wp2
            all_goals first
              | omega
              | (go_ret; exact ⟨rfl, n, rfl⟩)
end Go.Proofs.YtnlbfhjalnlngaaDoor
