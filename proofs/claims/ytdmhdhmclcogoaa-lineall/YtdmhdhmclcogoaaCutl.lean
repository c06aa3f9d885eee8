/- line.cutLabel. -/
import Derived.Test.YtdmhdhmclcogoaaSign
import Derived.Test.YtdmhdhmclcogoaaLies
namespace Go.Proofs.Ytdmhdhmclcogoaa
open Go.ChangeShapes Go.WideShapes Go.ChangeAt Go.RowKit
set_option linter.unusedVariables false
set_option maxRecDepth 100000

theorem cutLabel_few (a : Option Addr) (n c : Nat) (w : World) (hn : n < 2) :
    Calls Try.prog 20 #[.slice a n c] w fun e w' => e = .returned (.tuple #[.string ⟨#[]⟩, .slice a n c]) ∧ w' = w := by
  go_enter Try.func20, Try.ntmps20
  go_wp2
  all_goals first | omega | skip
  go_ret2
  exact ⟨rfl, rfl⟩

theorem below_alloc (w : World) (o : Obj) : Below w.heap.size w (w.alloc o) := (Below.refl _ w).alloc (Nat.le_refl _) o

theorem lineSign_b (t : Tok) (c : UInt8) (b : Bool) (h : isS t c = b) (w : World) :
    Calls Try.prog 37 #[tokV t, .string ⟨#[c]⟩] w fun e w' => e = .returned (.bool b) ∧ Below w.heap.size w w' := by
  refine (lineSign_any t c w).mono ?_
  rintro e w' ⟨rfl, o, rfl⟩
  exact ⟨by rw [h], below_alloc w o⟩

/-- a token lies from cell o of block g on -/
structure TokOff (w : World) (g o : Nat) (t : Tok) : Prop where
  kind : w.cell? ⟨g, o, none⟩ = some (.int .i64 t.kind)
  text : w.cell? ⟨g, o + 1, none⟩ = some (.string (str t.text))
  num : w.cell? ⟨g, o + 2, none⟩ = some (.int .u32 t.num)
  place : w.cell? ⟨g, o + 3, none⟩ = some (.int .i64 (t.place : Int))

theorem TokOff.below {w w' : World} {g o : Nat} {t : Tok} {B : Nat} (h : TokOff w g o t) (hb : Below B w w') (hg : g < B) : TokOff w' g o t :=
  ⟨by rw [hb.cell (p := ⟨g, o, none⟩) hg]; exact h.kind, by rw [hb.cell (p := ⟨g, o + 1, none⟩) hg]; exact h.text, by rw [hb.cell (p := ⟨g, o + 2, none⟩) hg]; exact h.num, by rw [hb.cell (p := ⟨g, o + 3, none⟩) hg]; exact h.place⟩

/-- the tokens ts lie from a on, wherever in its block that is -/
def TokFrom (w : World) (a : Option Addr) (ts : List Tok) : Prop := ts = [] ∨ ∃ g o, a = some ⟨g, o, none⟩ ∧ g < w.heap.size ∧ ∀ i t, ts[i]? = some t → TokOff w g (o + i * 4) t

theorem TokFrom.below {w w' : World} {a : Option Addr} {ts : List Tok} {B : Nat} (h : TokFrom w a ts) (hb : Below B w w') (hB : w.heap.size ≤ B) : TokFrom w' a ts := by
  rcases h with h | ⟨g, o, ha, hg, h⟩
  · exact .inl h
  · exact .inr ⟨g, o, ha, Nat.lt_of_lt_of_le hg hb.size, fun i t hi => (h i t hi).below hb (by omega)⟩

theorem cutLabel_many (g n c : Nat) (t u : Tok) (w : World) (hn : 2 ≤ n) (hm : n ≤ 1100000) (hc : n ≤ c) (hcc : c ≤ maxLen) (hg : g < w.heap.size) (h0 : TokAt w g 0 t) (h1 : TokAt w g 1 u) (hk : t.kind = 1) (hu : isS u 58 = true) :
    Calls Try.prog 20 #[.slice (some ⟨g, 0, none⟩) n c] w fun e w' => Below w.heap.size w w' ∧ ∃ o c', e = .returned (.tuple #[.string (str t.text), .slice (some ⟨g, o, none⟩) (n - 2) c']) ∧ n - 2 ≤ c' ∧ c' ≤ 9223372036854775807 ∧ (n ≠ 2 → o = 8) := by
  unfold maxLen at hcc
  have hH := Hid.intro h0
  obtain ⟨q0, q1, q2, q3⟩ := h0
  obtain ⟨p0, p1, p2, p3⟩ := h1
  simp only [Nat.zero_mul, Nat.zero_add, Nat.one_mul, Nat.reduceAdd] at q0 q1 q2 q3 p0 p1 p2 p3
  have hS := Hid.intro (lineSign_b u 58 true hu)
  have hk' : (t.kind != 1) = false := by simp [hk]
  clear hk hu
  go_enter Try.func20, Try.ntmps20
  go_wp2_with (go_at_call 37; with_reducible refine (hS.out _).mono ?_; rintro e w1 ⟨rfl, hb1⟩; obtain ⟨k0, k1, k2, k3⟩ := hH.out.below hb1 hg; simp only [Nat.zero_mul, Nat.zero_add] at k0 k1 k2 k3)
  all_goals first | omega | skip
  go_quiet (fail)
  go_wp2
  all_goals first | omega | skip
  · rename_i hc2
    go_ret2
    exact ⟨below_drewN hb1 nq, 0, 0, rfl, by omega, by omega, by omega⟩
  · go_ret2
    exact ⟨below_drewN hb1 nq, 8, c - 2, rfl, by omega, by omega, fun _ => rfl⟩

theorem cutLabel_not (g n c : Nat) (t u : Tok) (w : World) (hn : 2 ≤ n) (hm : n ≤ 1100000) (hg : g < w.heap.size) (h0 : TokAt w g 0 t) (h1 : TokAt w g 1 u) (h : ¬ (t.kind = 1 ∧ isS u 58 = true)) :
    Calls Try.prog 20 #[.slice (some ⟨g, 0, none⟩) n c] w fun e w' => Below w.heap.size w w' ∧ e = .returned (.tuple #[.string ⟨#[]⟩, .slice (some ⟨g, 0, none⟩) n c]) := by
  obtain ⟨q0, q1, q2, q3⟩ := h0
  obtain ⟨p0, p1, p2, p3⟩ := h1
  simp only [Nat.zero_mul, Nat.zero_add, Nat.one_mul, Nat.reduceAdd] at q0 q1 q2 q3 p0 p1 p2 p3
  by_cases hk : t.kind = 1
  · have hu : isS u 58 = false := by
      cases hx : isS u 58
      · rfl
      · exact absurd ⟨hk, hx⟩ h
    have hS := Hid.intro (lineSign_b u 58 false hu)
    have hk' : (t.kind != 1) = false := by simp [hk]
    clear hk hu h
    go_enter Try.func20, Try.ntmps20
    go_wp2_with (go_at_call 37; with_reducible refine (hS.out _).mono ?_; rintro e w1 ⟨rfl, hb1⟩)
    all_goals first | omega | skip
    go_ret2
    exact ⟨hb1, rfl⟩
  · have hk' : (t.kind != 1) = true := by simp [hk]
    clear hk h
    go_enter Try.func20, Try.ntmps20
    go_wp2
    all_goals first | omega | skip
    go_ret2
    exact ⟨Below.refl _ _, rfl⟩

theorem tokAt_off {w : World} {g i : Nat} {t : Tok} (h : TokAt w g i t) : TokOff w g (i * 4) t := ⟨h.kind, h.text, h.num, h.place⟩

theorem cutLabel_any (v : Value) (ts : List Tok) (B : Nat) (w : World) (hm : ts.length ≤ 1100000) (hown : w.ownsRow B 48 4 v ts.length (rowOf ts)) :
    Calls Try.prog 20 #[v] w fun e w' => Below w.heap.size w w' ∧ ∃ a' c', e = .returned (.tuple #[.string (str (cutT ts).1), .slice a' (cutT ts).2.length c']) ∧ (cutT ts).2.length ≤ c' ∧ c' ≤ 9223372036854775807 ∧ TokFrom w' a' (cutT ts).2 ∧ ∀ x, a' = some x → B ≤ x.block := by
  match ts, hm, hown with
  | [], hm, hown =>
    obtain ⟨hl, ⟨hv, h0⟩ | ⟨g, cap, cur, hv, hbg, hgg, hle, hcap, hsz, htk⟩⟩ := hown
    · subst hv
      refine (cutLabel_few none 0 0 w (by omega)).mono ?_
      rintro e w' ⟨rfl, rfl⟩
      exact ⟨Below.refl _ _, none, 0, rfl, by simp [cutT], by omega, .inl rfl, fun x hx => by cases hx⟩
    · subst hv
      refine (cutLabel_few _ _ cap w (by simp)).mono ?_
      rintro e w' ⟨rfl, rfl⟩
      unfold maxLen at hcap
      exact ⟨Below.refl _ _, _, cap, rfl, by simp [cutT], by omega, .inl rfl, fun x hx => by cases hx; exact hbg⟩
  | [t], hm, hown =>
    have hown' := hown
    obtain ⟨hl, ⟨hv, h0⟩ | ⟨g, cap, cur, hv, hbg, hgg, hle, hcap, hsz, htk⟩⟩ := hown
    · simp at h0
    · subst hv
      refine (cutLabel_few _ _ cap w (by simp)).mono ?_
      rintro e w' ⟨rfl, rfl⟩
      unfold maxLen at hcap
      refine ⟨Below.refl _ _, _, cap, rfl, by simpa [cutT] using hle, by omega, .inr ⟨g, 0, rfl, (Array.getElem?_eq_some_iff.1 hgg).1, fun i x hi => ?_⟩, fun x hx => by cases hx; exact hbg⟩
      rw [Nat.zero_add]
      exact tokAt_off (tok_at hown' i x hi)
  | t :: u :: r, hm, hown =>
    have hown' := hown
    obtain ⟨hl, ⟨hv, h0⟩ | ⟨g, cap, cur, hv, hbg, hgg, hle, hcap, hsz, htk⟩⟩ := hown
    · simp at h0
    · subst hv
      have hg := (Array.getElem?_eq_some_iff.1 hgg).1
      have h0 := tok_at hown' 0 t rfl
      have h1 := tok_at hown' 1 u rfl
      by_cases h : t.kind = 1 ∧ isS u 58 = true
      · have e1 : cutT (t :: u :: r) = (t.text, r) := by simp only [cutT]; rw [if_pos h]
        rw [e1]
        refine (cutLabel_many g _ cap t u w (by simp) hm hle hcap hg h0 h1 h.1 h.2).mono ?_
        rintro e w' ⟨hb, o, c', rfl, hc1, hc2, ho⟩
        refine ⟨hb, _, c', rfl, by simpa using hc1, hc2, ?_, fun x hx => by cases hx; exact hbg⟩
        cases r with
        | nil => exact .inl rfl
        | cons x r =>
          have ho8 : o = 8 := ho (by simp)
          subst ho8
          refine .inr ⟨g, 8, rfl, Nat.lt_of_lt_of_le hg hb.size, fun i y hi => ?_⟩
          have := (tokAt_off (tok_at hown' (i + 2) y (by simpa using hi))).below hb hg
          rw [show (i + 2) * 4 = 8 + i * 4 by omega] at this
          exact this
      · have e1 : cutT (t :: u :: r) = ([], t :: u :: r) := by simp only [cutT]; rw [if_neg h]
        rw [e1]
        refine (cutLabel_not g _ cap t u w (by simp) hm hg h0 h1 h).mono ?_
        rintro e w' ⟨hb, rfl⟩
        unfold maxLen at hcap
        refine ⟨hb, _, cap, rfl, hle, by omega, .inr ⟨g, 0, rfl, Nat.lt_of_lt_of_le hg hb.size, fun i x hi => ?_⟩, fun x hx => by cases hx; exact hbg⟩
        rw [Nat.zero_add]
        exact (tokAt_off (tok_at hown' i x hi)).below hb hg
end Go.Proofs.Ytdmhdhmclcogoaa
