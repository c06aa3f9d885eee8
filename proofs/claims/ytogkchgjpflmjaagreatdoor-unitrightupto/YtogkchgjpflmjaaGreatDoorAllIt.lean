/- line.All: the iterator and its contract. -/
import Derived.Test.YtogkchgjpflmjaaGreatDoorLineM
import Derived.Test.YtogkchgjpflmjaaGreatDoorShelf
import Derived.Test.YtogkchgjpflmjaaGreatDoorNum3
import Derived.Test.YtogkchgjpflmjaaGreatDoorNames
import Derived.Lib.IndexLaws
import Derived.BigQuiet
import Derived.WalkSmall
import Derived.RangeFuncNested
import Derived.RangeFuncBound
import Derived.RangeFuncCalls
import Derived.RangeFuncLeaves
import Derived.Shelf.Abstract
import Derived.Shelf.RegionOpen
import Derived.WalkKit
import Derived.OwnWalkIn
import Derived.TacticsInMore
import Derived.LoopNIn
import Derived.LoopIn
/- line.isSign, and the document's sign. -/
namespace Go.Proofs.YtogkchgjpflmjaaGreatDoor
open Go.ChangeShapes Go.WideShapes Go.ChangeAt Go.RowKit
set_option linter.unusedVariables false
set_option maxRecDepth 100000
abbrev ltokV (t : Tok) : Value := .agg #[.int .i64 t.kind, .string (str t.text), .int .u32 t.num, .int .i64 (t.place : Int)]
theorem lineSign_any (t : Tok) (c : UInt8) (w : World) :
    Calls Tryz.prog 130 #[ltokV t, .string ⟨#[c]⟩] w fun e w' => e = .returned (.bool (isS t c)) ∧ ∃ o, w' = w.alloc o := by
  by_cases hk : t.kind = 3
  · go_enter Tryz.func130, Tryz.ntmps130
    go_wp2
    go_ret
    refine ⟨?_, _, rfl⟩
    rw [lisS_text t c hk, str_toList]
    show Ending.returned (Value.bool (t.text == [c])) = _
    rw [show (t.text == [c]) = decide (t.text = [c]) by by_cases h : t.text = [c] <;> simp [h]]
  · have hk' : (t.kind == 3) = false := by simp [hk]
    rw [isS_kind t c hk]
    go_enter Tryz.func130, Tryz.ntmps130
    go_wp2
    go_ret
    exact ⟨rfl, _, rfl⟩
end Go.Proofs.YtogkchgjpflmjaaGreatDoor
/- line.cutLabel. -/
namespace Go.Proofs.YtogkchgjpflmjaaGreatDoor
open Go.ChangeShapes Go.WideShapes Go.ChangeAt Go.RowKit
set_option linter.unusedVariables false
set_option maxRecDepth 100000
theorem cutLabel_few (a : Option Addr) (n c : Nat) (w : World) (hn : n < 2) :
    Calls Tryz.prog 102 #[.slice a n c] w fun e w' => e = .returned (.tuple #[.string ⟨#[]⟩, .slice a n c]) ∧ w' = w := by
  go_enter Tryz.func102, Tryz.ntmps102
  go_wp2
  all_goals first | omega | skip
  go_ret2
  exact ⟨rfl, rfl⟩
theorem lbelow_alloc (w : World) (o : Obj) : Below w.heap.size w (w.alloc o) := (Below.refl _ w).alloc (Nat.le_refl _) o
theorem lineSign_b (t : Tok) (c : UInt8) (b : Bool) (h : isS t c = b) (w : World) :
    Calls Tryz.prog 130 #[ltokV t, .string ⟨#[c]⟩] w fun e w' => e = .returned (.bool b) ∧ Below w.heap.size w w' := by
  refine (lineSign_any t c w).mono ?_
  rintro e w' ⟨rfl, o, rfl⟩
  exact ⟨by rw [h], lbelow_alloc w o⟩
theorem TokOff.below {w w' : World} {g o : Nat} {t : Tok} {B : Nat} (h : TokOff w g o t) (hb : Below B w w') (hg : g < B) : TokOff w' g o t :=
  ⟨by rw [hb.cell (p := ⟨g, o, none⟩) hg]; exact h.kind, by rw [hb.cell (p := ⟨g, o + 1, none⟩) hg]; exact h.text, by rw [hb.cell (p := ⟨g, o + 2, none⟩) hg]; exact h.num, by rw [hb.cell (p := ⟨g, o + 3, none⟩) hg]; exact h.place⟩
theorem TokFrom.below {w w' : World} {a : Option Addr} {ts : List Tok} {B : Nat} (h : TokFrom w a ts) (hb : Below B w w') (hB : w.heap.size ≤ B) : TokFrom w' a ts := by
  rcases h with h | ⟨g, o, ha, hg, h⟩
  · exact .inl h
  · exact .inr ⟨g, o, ha, Nat.lt_of_lt_of_le hg hb.size, fun i t hi => (h i t hi).below hb (by omega)⟩
theorem cutLabel_many (g n c : Nat) (t u : Tok) (w : World) (hn : 2 ≤ n) (hm : n ≤ 1100000) (hc : n ≤ c) (hcc : c ≤ maxLen) (hg : g < w.heap.size) (h0 : TokAt w g 0 t) (h1 : TokAt w g 1 u) (hk : t.kind = 1) (hu : isS u 58 = true) :
    Calls Tryz.prog 102 #[.slice (some ⟨g, 0, none⟩) n c] w fun e w' => Below w.heap.size w w' ∧ ∃ o c', e = .returned (.tuple #[.string (str t.text), .slice (some ⟨g, o, none⟩) (n - 2) c']) ∧ n - 2 ≤ c' ∧ c' ≤ 9223372036854775807 ∧ (n ≠ 2 → o = 8) := by
  unfold maxLen at hcc
  have hH := Hid.intro h0
  obtain ⟨q0, q1, q2, q3⟩ := h0
  obtain ⟨p0, p1, p2, p3⟩ := h1
  simp only [Nat.zero_mul, Nat.zero_add, Nat.one_mul, Nat.reduceAdd] at q0 q1 q2 q3 p0 p1 p2 p3
  have hS := Hid.intro (lineSign_b u 58 true hu)
  have hk' : (t.kind != 1) = false := by simp [hk]
  clear hk hu
  go_enter Tryz.func102, Tryz.ntmps102
  go_wp2_with (go_at_call 130; with_reducible refine (hS.out _).mono ?_; rintro e w1 ⟨rfl, hb1⟩; obtain ⟨k0, k1, k2, k3⟩ := hH.out.below hb1 hg; simp only [Nat.zero_mul, Nat.zero_add] at k0 k1 k2 k3)
  all_goals first | omega | skip
  go_quiet (fail)
  go_wp2
  all_goals first | omega | skip
  · rename_i hc2
    go_ret2
    exact ⟨below_drewN hb1 nq, 0, 0, rfl, by omega, by omega, by omega⟩
  · go_ret2
    exact ⟨below_drewN hb1 nq, 8, c - 2, rfl, by omega, by omega, fun _ => rfl⟩
theorem cutLabel_not (g n c : Nat) (t u : Tok) (w : World) (hn : 2 ≤ n) (hm : n ≤ 1100000) (hg : g < w.heap.size) (h0 : TokAt w g 0 t) (h1 : TokAt w g 1 u) (h : ¬ (t.kind = 1 ∧ isS u 58 = true)) :
    Calls Tryz.prog 102 #[.slice (some ⟨g, 0, none⟩) n c] w fun e w' => Below w.heap.size w w' ∧ e = .returned (.tuple #[.string ⟨#[]⟩, .slice (some ⟨g, 0, none⟩) n c]) := by
  obtain ⟨q0, q1, q2, q3⟩ := h0
  obtain ⟨p0, p1, p2, p3⟩ := h1
  simp only [Nat.zero_mul, Nat.zero_add, Nat.one_mul, Nat.reduceAdd] at q0 q1 q2 q3 p0 p1 p2 p3
  by_cases hk : t.kind = 1
  · have hu : isS u 58 = false := by
      cases hx : isS u 58
      · rfl
      · exact absurd ⟨hk, hx⟩ h
    have hS := Hid.intro (lineSign_b u 58 false hu)
    have hk' : (t.kind != 1) = false := by simp [hk]
    clear hk hu h
    go_enter Tryz.func102, Tryz.ntmps102
    go_wp2_with (go_at_call 130; with_reducible refine (hS.out _).mono ?_; rintro e w1 ⟨rfl, hb1⟩)
    all_goals first | omega | skip
    go_ret2
    exact ⟨hb1, rfl⟩
  · have hk' : (t.kind != 1) = true := by simp [hk]
    clear hk h
    go_enter Tryz.func102, Tryz.ntmps102
    go_wp2
    all_goals first | omega | skip
    go_ret2
    exact ⟨Below.refl _ _, rfl⟩
theorem tokAt_off {w : World} {g i : Nat} {t : Tok} (h : TokAt w g i t) : TokOff w g (i * 4) t := ⟨h.kind, h.text, h.num, h.place⟩
theorem cutLabel_any (v : Value) (ts : List Tok) (B : Nat) (w : World) (hm : ts.length ≤ 1100000) (hown : w.ownsRow B 188 4 v ts.length (rowOf ts)) :
    Calls Tryz.prog 102 #[v] w fun e w' => Below w.heap.size w w' ∧ ∃ a' c', e = .returned (.tuple #[.string (str (cutT ts).1), .slice a' (cutT ts).2.length c']) ∧ (cutT ts).2.length ≤ c' ∧ c' ≤ 9223372036854775807 ∧ TokFrom w' a' (cutT ts).2 ∧ ∀ x, a' = some x → B ≤ x.block := by
  match ts, hm, hown with
  | [], hm, hown =>
    obtain ⟨hl, ⟨hv, h0⟩ | ⟨g, cap, cur, hv, hbg, hgg, hle, hcap, hsz, htk⟩⟩ := hown
    · subst hv
      refine (cutLabel_few none 0 0 w (by omega)).mono ?_
      rintro e w' ⟨rfl, rfl⟩
      exact ⟨Below.refl _ _, none, 0, rfl, by simp [cutT], by omega, .inl rfl, fun x hx => by cases hx⟩
    · subst hv
      refine (cutLabel_few _ _ cap w (by simp)).mono ?_
      rintro e w' ⟨rfl, rfl⟩
      unfold maxLen at hcap
      exact ⟨Below.refl _ _, _, cap, rfl, by simp [cutT], by omega, .inl rfl, fun x hx => by cases hx; exact hbg⟩
  | [t], hm, hown =>
    have hown' := hown
    obtain ⟨hl, ⟨hv, h0⟩ | ⟨g, cap, cur, hv, hbg, hgg, hle, hcap, hsz, htk⟩⟩ := hown
    · simp at h0
    · subst hv
      refine (cutLabel_few _ _ cap w (by simp)).mono ?_
      rintro e w' ⟨rfl, rfl⟩
      unfold maxLen at hcap
      refine ⟨Below.refl _ _, _, cap, rfl, by simpa [cutT] using hle, by omega, .inr ⟨g, 0, rfl, (Array.getElem?_eq_some_iff.1 hgg).1, fun i x hi => ?_⟩, fun x hx => by cases hx; exact hbg⟩
      rw [Nat.zero_add]
      exact tokAt_off (tok_at hown' i x hi)
  | t :: u :: r, hm, hown =>
    have hown' := hown
    obtain ⟨hl, ⟨hv, h0⟩ | ⟨g, cap, cur, hv, hbg, hgg, hle, hcap, hsz, htk⟩⟩ := hown
    · simp at h0
    · subst hv
      have hg := (Array.getElem?_eq_some_iff.1 hgg).1
      have h0 := tok_at hown' 0 t rfl
      have h1 := tok_at hown' 1 u rfl
      by_cases h : t.kind = 1 ∧ isS u 58 = true
      · have e1 : cutT (t :: u :: r) = (t.text, r) := by simp only [cutT]; rw [if_pos h]
        rw [e1]
        refine (cutLabel_many g _ cap t u w (by simp) hm hle hcap hg h0 h1 h.1 h.2).mono ?_
        rintro e w' ⟨hb, o, c', rfl, hc1, hc2, ho⟩
        refine ⟨hb, _, c', rfl, by simpa using hc1, hc2, ?_, fun x hx => by cases hx; exact hbg⟩
        cases r with
        | nil => exact .inl rfl
        | cons x r =>
          have ho8 : o = 8 := ho (by simp)
          subst ho8
          refine .inr ⟨g, 8, rfl, Nat.lt_of_lt_of_le hg hb.size, fun i y hi => ?_⟩
          have := (tokAt_off (tok_at hown' (i + 2) y (by simpa using hi))).below hb hg
          rw [show (i + 2) * 4 = 8 + i * 4 by omega] at this
          exact this
      · have e1 : cutT (t :: u :: r) = ([], t :: u :: r) := by simp only [cutT]; rw [if_neg h]
        rw [e1]
        refine (cutLabel_not g _ cap t u w (by simp) hm hg h0 h1 h).mono ?_
        rintro e w' ⟨hb, rfl⟩
        unfold maxLen at hcap
        refine ⟨hb, _, cap, rfl, hle, by omega, .inr ⟨g, 0, rfl, Nat.lt_of_lt_of_le hg hb.size, fun i x hi => ?_⟩, fun x hx => by cases hx; exact hbg⟩
        rw [Nat.zero_add]
        exact (tokAt_off (tok_at hown' i x hi)).below hb hg
end Go.Proofs.YtogkchgjpflmjaaGreatDoor
/- Arguments in memory: a list of lists of tokens, each in a block of its own. -/
namespace Go.Proofs.YtogkchgjpflmjaaGreatDoor
open Go.ChangeShapes Go.WideShapes Go.ChangeAt Go.RowKit
set_option linter.unusedVariables false
set_option maxRecDepth 100000
theorem lgrown_of_below {w w' : World} (h : Below w.heap.size w w') : w.grownBy w' none := ⟨h.os, h.tape, h.output, h.size, fun k hk _ => h.block k hk⟩
structure ArgsOwn (T E : TypeId) (lo : Nat) (w : World) (va : Value) (acc : List (List Tok)) (vs : List Value) (m : Nat) : Prop where
  len : vs.length = acc.length
  row : w.ownsRow lo T 1 va vs.length vs
  each : ∀ (i : Nat) (v : Value) (xs : List Tok), vs[i]? = some v → acc[i]? = some xs → xs.length ≠ 0 ∧ w.ownsRow lo E 4 v xs.length (rowOf xs)
  low : ∀ (i : Nat) (v : Value) (g : Nat), vs[i]? = some v → v.ownBlock = some g → g < m
  rise : ∀ (i j : Nat) (v v' : Value) (g g' : Nat), i < j → vs[i]? = some v → vs[j]? = some v' → v.ownBlock = some g → v'.ownBlock = some g' → g < g'
  le : m ≤ w.heap.size
theorem lown_type {w : World} {lo : Nat} {T : TypeId} {sz : Nat} {v : Value} {n : Nat} {xs : List Value} (h : w.ownsRow lo T sz v n xs) {g : Nat} (hg : v.ownBlock = some g) : ∃ cur, w.heap[g]? = some (.cells cur T (0, 0)) := by
  rcases h.2 with ⟨rfl, _⟩ | ⟨g', cap, cur, rfl, _, hgg, _⟩
  · simp [Value.ownBlock] at hg
  · simp [Value.ownBlock] at hg
    subst hg
    exact ⟨cur, hgg⟩
theorem own_other {w : World} {lo lo' : Nat} {T T' : TypeId} {sz sz' : Nat} {v v' : Value} {n n' : Nat} {xs xs' : List Value} (h : w.ownsRow lo T sz v n xs) (h' : w.ownsRow lo' T' sz' v' n' xs') (hT : T ≠ T') : v.ownBlock = none ∨ v.ownBlock ≠ v'.ownBlock := by
  cases hv : v.ownBlock with
  | none => exact .inl rfl
  | some g =>
    refine .inr fun e => ?_
    obtain ⟨c1, e1⟩ := lown_type h hv
    obtain ⟨c2, e2⟩ := lown_type h' e.symm
    rw [e1] at e2
    injection e2 with e2
    injection e2 with _ e2
    exact hT e2
theorem ArgsOwn.start (T E : TypeId) (lo : Nat) (w : World) (m : Nat) (hm : m ≤ w.heap.size) : ArgsOwn T E lo w (.slice none 0 0) [] [] m :=
  ⟨rfl, World.ownsRow_nil _ _ _ _, fun i v xs h => by simp at h, fun i v g h => by simp at h, fun i j v v' g g' _ h => by simp at h, hm⟩
theorem ArgsOwn.grown {T E : TypeId} {lo : Nat} {w w' : World} {va : Value} {acc : List (List Tok)} {vs : List Value} {m : Nat} (h : ArgsOwn T E lo w va acc vs m) {row : Option Nat} (hg : w.grownBy w' row)
    (h1 : va.ownBlock = none ∨ va.ownBlock ≠ row) (h2 : ∀ k, row = some k → m ≤ k) : ArgsOwn T E lo w' va acc vs m := by
  refine ⟨h.len, h.row.kept hg h1, fun i v xs hv hx => ?_, h.low, h.rise, Nat.le_trans h.le hg.size⟩
  obtain ⟨h0, ho⟩ := h.each i v xs hv hx
  refine ⟨h0, ho.kept hg ?_⟩
  cases hb : v.ownBlock with
  | none => exact .inl rfl
  | some g =>
    refine .inr fun e => ?_
    have k1 := h.low i v g hv hb
    have k2 := h2 g e.symm
    omega
theorem ArgsOwn.below {T E : TypeId} {lo : Nat} {w w' : World} {va : Value} {acc : List (List Tok)} {vs : List Value} {m : Nat} (h : ArgsOwn T E lo w va acc vs m) (hb : Below w.heap.size w w') : ArgsOwn T E lo w' va acc vs m :=
  h.grown (lgrown_of_below hb) (by cases va.ownBlock <;> simp) (fun k e => by cases e)
theorem ArgsOwn.arg {T E : TypeId} {lo : Nat} {w w' : World} {va : Value} {acc : List (List Tok)} {vs : List Value} {m : Nat} (h : ArgsOwn T E lo w va acc vs m) (hT : T ≠ E) {v : Value} {n : Nat} {xs : List Value} (hv : w.ownsRow m E 4 v n xs) (hg : w.grownBy w' v.ownBlock) : ArgsOwn T E lo w' va acc vs m :=
  h.grown hg (own_other h.row hv hT) (fun k e => (hv.lt k e).1)
theorem ArgsOwn.push {T E : TypeId} {lo : Nat} {w w' : World} {va va' : Value} {acc : List (List Tok)} {vs : List Value} {m : Nat} (h : ArgsOwn T E lo w va acc vs m) (hT : T ≠ E) (hlo : lo ≤ m) {v : Value} {xs : List Tok} (h0 : xs.length ≠ 0) (hv : w.ownsRow m E 4 v xs.length (rowOf xs))
    (hg : w.grownBy w' va.ownBlock) (hrow : w'.ownsRow lo T 1 va' (vs.length + 1) (vs ++ [v])) : ArgsOwn T E lo w' va' (acc ++ [xs]) (vs ++ [v]) w'.heap.size := by
  have hv' : w'.ownsRow lo E 4 v xs.length (rowOf xs) := by
    have := hv.kept hg (own_other hv h.row (Ne.symm hT))
    refine ⟨this.1, ?_⟩
    rcases this.2 with hx | ⟨g, cap, cur, k1, k2, k3⟩
    · exact .inl hx
    · exact .inr ⟨g, cap, cur, k1, by omega, k3⟩
  have hlt : ∀ (i : Nat) (u : Value), (vs ++ [v])[i]? = some u → (i < vs.length ∧ vs[i]? = some u) ∨ (i = vs.length ∧ u = v) := fun i u hu => by
    by_cases hi : i < vs.length
    · rw [List.getElem?_append_left hi] at hu; exact .inl ⟨hi, hu⟩
    · rw [List.getElem?_append_right (by omega)] at hu
      have : i - vs.length = 0 := by
        apply Decidable.byContradiction
        intro hn
        rw [List.getElem?_eq_none (by simp; omega)] at hu
        cases hu
      rw [this] at hu
      simp at hu
      exact .inr ⟨by omega, hu.symm⟩
  refine ⟨by simp [h.len], by simpa using hrow, fun i u ys hu hy => ?_, fun i u g hu hb => ?_, fun i j u u' g g' hij hu hu' hb hb' => ?_, Nat.le_refl _⟩
  · rcases hlt i u hu with ⟨hi, hu⟩ | ⟨hi, hu⟩
    · rw [List.getElem?_append_left (by rw [← h.len]; exact hi)] at hy
      obtain ⟨k0, k1⟩ := h.each i u ys hu hy
      exact ⟨k0, k1.kept hg (own_other k1 h.row (Ne.symm hT))⟩
    · subst hu
      rw [hi, h.len, List.getElem?_append_right (Nat.le_refl _), Nat.sub_self] at hy
      simp at hy
      subst hy
      exact ⟨h0, hv'⟩
  · rcases hlt i u hu with ⟨hi, hu⟩ | ⟨hi, hu⟩
    · have := h.low i u g hu hb
      have := h.le
      have := hg.size
      omega
    · subst hu
      exact (hv'.lt g hb).2
  · rcases hlt i u hu with ⟨hi, k1⟩ | ⟨hi, k1⟩
    · rcases hlt j u' hu' with ⟨hj, k2⟩ | ⟨hj, k2⟩
      · exact h.rise i j u u' g g' hij k1 k2 hb hb'
      · rw [k2] at hb'
        have k3 := h.low i u g k1 hb
        have k4 := (hv.lt g' hb').1
        omega
    · rcases hlt j u' hu' with ⟨hj, k2⟩ | ⟨hj, k2⟩
      · omega
      · omega
end Go.Proofs.YtogkchgjpflmjaaGreatDoor
/- The lines of a source, as a function on its bytes. -/
namespace Go.Proofs.YtogkchgjpflmjaaGreatDoor
set_option linter.unusedVariables false
def nlLen : List UInt8 → Nat
  | [] => 0
  | b :: l => if b = 10 then 0 else nlLen l + 1
theorem nlLen_le (l : List UInt8) : nlLen l ≤ l.length := by
  induction l with
  | nil => simp [nlLen]
  | cons b l ih => unfold nlLen; split <;> simp; omega
def linesOf (l : List UInt8) : List (List UInt8) :=
  match l with
  | [] => []
  | b :: r => (b :: r).take (nlLen (b :: r)) :: linesOf ((b :: r).drop (nlLen (b :: r) + 1))
  termination_by l.length
  decreasing_by simp; omega
theorem linesOf_nil : linesOf [] = [] := by rw [linesOf]
theorem linesOf_more (l : List UInt8) (h : l ≠ []) : linesOf l = l.take (nlLen l) :: linesOf (l.drop (nlLen l + 1)) := by
  cases l with
  | nil => exact absurd rfl h
  | cons b r => rw [linesOf]
theorem idx_nl (l : List UInt8) : Lib.indexByte l 10 = if nlLen l < l.length then (nlLen l : Int) else -1 := by
  induction l with
  | nil => simp [nlLen, Lib.indexByte]
  | cons b l ih =>
    unfold nlLen Lib.indexByte
    by_cases h : b = 10
    · rw [if_pos (by simp [h]), if_pos h, if_pos (by simp)]
      rfl
    · rw [if_neg (by simp [h]), if_neg h, ih]
      by_cases h2 : nlLen l < l.length
      · rw [if_pos h2, if_neg (by simp), if_pos (by simp; omega)]
        push_cast
        rfl
      · rw [if_neg h2, if_pos (by decide), if_neg (by simp; omega)]
theorem linesOf_len (l : List UInt8) : (linesOf l).length ≤ l.length := by
  induction hn : l.length using Nat.strongRecOn generalizing l with
  | _ n ih =>
    subst hn
    by_cases h : l = []
    · subst h; rw [linesOf_nil]; simp
    · rw [linesOf_more l h, List.length_cons]
      have hl : 0 < l.length := by cases l <;> simp_all
      have := ih (l.drop (nlLen l + 1)).length (by simp; omega) (l.drop (nlLen l + 1)) rfl
      rw [List.length_drop] at this
      omega
theorem linesOf_size (l : List UInt8) : ∀ x ∈ linesOf l, x.length ≤ l.length := by
  induction hn : l.length using Nat.strongRecOn generalizing l with
  | _ n ih =>
    subst hn
    by_cases h : l = []
    · subst h; rw [linesOf_nil]; intro x hx; cases hx
    · rw [linesOf_more l h]
      have hl : 0 < l.length := by cases l <;> simp_all
      intro x hx
      rcases List.mem_cons.1 hx with rfl | hx
      · rw [List.length_take]; omega
      · have := ih (l.drop (nlLen l + 1)).length (by simp; omega) (l.drop (nlLen l + 1)) rfl x hx
        rw [List.length_drop] at this
        omega
end Go.Proofs.YtogkchgjpflmjaaGreatDoor
/- strings.Cut at a byte 10. -/
namespace Go.Proofs.YtogkchgjpflmjaaGreatDoor
open Go.ChangeShapes Go.WideShapes Go.ChangeAt Go.RowKit
set_option linter.unusedVariables false
set_option maxRecDepth 100000
theorem index_any (l : List UInt8) (w : World) :
    Calls Tryz.prog 122 #[.string (str l), .string ⟨#[10]⟩] w fun e w' => e = .returned (.int .i64 (Lib.indexByte l 10)) ∧ w' = w := by
  have e1 := str_toList l
  have hx : (10 : Int).toNat.toUInt8 = 10 := rfl
  have hI : ∀ w, Calls Tryz.prog 153 #[.string (str l), .int .u8 10] w fun e w' => e = .returned (.int .i64 (Lib.indexByte l 10)) ∧ w' = w := fun w => by
    have := liteIndexByte_any (str l) 10 w
    rw [hx] at this
    exact this
  have hIH := Hid.intro hI
  clear hI hx
  by_cases h : l = [10]
  · subst h
    have hz : Lib.indexByte [10] 10 = 0 := rfl
    rw [hz]
    go_enter Tryz.func122, Tryz.ntmps122
    go_wp2
    go_ret
    exact ⟨rfl, rfl⟩
  · have hb : ([10] == l) = false := by
      rw [beq_eq_false_iff_ne]
      exact fun e => h e.symm
    clear h
    go_enter Tryz.func122, Tryz.ntmps122
    go_wp2_with (go_at_call 153; refine (hIH.out _).mono ?_; rintro e w' ⟨rfl, rfl⟩)
    go_ret
    exact ⟨rfl, rfl⟩
theorem liteCut_any (l : List UInt8) (w : World) (hl : l.length ≤ 1100000) :
    Calls Tryz.prog 100 #[.string (str l), .string ⟨#[10]⟩] w fun e w' => (∃ b, e = .returned (.tuple #[.string (str (l.take (nlLen l))), .string (str (l.drop (nlLen l + 1))), .bool b])) ∧ Below w.heap.size w w' := by
  have hI := Hid.intro (index_any l)
  have hsz : (str l).size = l.length := by simp [str, ByteArray.size]
  have hle := nlLen_le l
  by_cases h : nlLen l < l.length
  · rw [idx_nl l, if_pos h] at hI
    obtain ⟨k, hk⟩ : ∃ k, k = nlLen l := ⟨_, rfl⟩
    rw [← hk] at hI h hle ⊢
    have h1 : ∀ W : World, (Instr.slice 9 (.string (str l)) none (some (.int .i64 (k : Int))) none).run Tryz.prog W = .ok (.string (str (l.take k))) W := fun W => by
      rw [run_slice_string_h W 9 (str l) Tryz.underlying9 .i64 (k : Int) (by omega) (by omega), Lib.extract_eq]
      simp [str]
    have h2 : ∀ W : World, (Instr.slice 9 (.string (str l)) (some (.int .i64 ((k : Int) + 1))) none none).run Tryz.prog W = .ok (.string (str (l.drop (k + 1)))) W := fun W => by
      rw [run_slice_string_l W 9 (str l) Tryz.underlying9 .i64 ((k : Int) + 1) (by omega) (by omega), hsz, Lib.extract_eq]
      rw [List.take_of_length_le (by simp [str])]
      simp [str]
    have h3 : IntKind.i64.wrap ((k : Int) + 1) = (k : Int) + 1 := by rw [IntKind.wrap_i64]; omega
    clear hk
    go_enter Tryz.func100, Tryz.ntmps100
    go_wp2_with (go_at_call 122; refine (hI.out _).mono ?_; rintro e w' ⟨rfl, rfl⟩)
    all_goals first | omega | skip
    go_quiet (fail)
    go_wp2
    all_goals first | omega | skip
    go_ret3
    exact ⟨⟨_, rfl⟩, below_drewN (Below.refl _ _) nq⟩
  · have e : nlLen l = l.length := by omega
    rw [idx_nl l, if_neg h] at hI
    rw [e, List.take_length, List.drop_eq_nil_of_le (by omega)]
    clear e h hle
    go_enter Tryz.func100, Tryz.ntmps100
    go_wp2_with (go_at_call 122; refine (hI.out _).mono ?_; rintro e w' ⟨rfl, rfl⟩)
    go_ret3
    exact ⟨⟨_, rfl⟩, Below.refl _ _⟩
theorem cut_any (l : List UInt8) (w : World) (hl : l.length ≤ 1100000) :
    Calls Tryz.prog 66 #[.string (str l), .string ⟨#[10]⟩] w fun e w' => (∃ b, e = .returned (.tuple #[.string (str (l.take (nlLen l))), .string (str (l.drop (nlLen l + 1))), .bool b])) ∧ Below w.heap.size w w' := by
  have hI := Hid.intro (liteCut_any l w hl)
  go_enter Tryz.func66, Tryz.ntmps66
  go_wp2_with (go_at_call 100; refine (hI.out).mono ?_; rintro e w' ⟨⟨b, rfl⟩, hb⟩)
  go_ret3
  exact ⟨⟨_, rfl⟩, hb⟩
end Go.Proofs.YtogkchgjpflmjaaGreatDoor
namespace Go.Proofs.YtogkchgjpflmjaaGreatDoor
open Go.ChangeShapes Go.WideShapes Go.ChangeAt Go.RowKit Go.Shelf
set_option linter.unusedVariables false
set_option maxRecDepth 100000
attribute [local go_sem] Oper.semAt_some
theorem all_any (s : ByteArray) (w : World) :
    Calls Tryz.prog 33 #[.string s] w fun e w' => e = .returned (.func (.func 65) #[] #[.pointer (some ⟨w.heap.size, 0, none⟩)]) ∧ w' = w.alloc (.cells #[.string s] 9) := by
  have hmf : ∀ (fn : Fn) (first cap : Array Value) (w : World), (Instr.makeFunc fn first cap).run Tryz.prog w = .ok (.func fn first cap) w := fun _ _ _ _ => rfl
  go_enter Tryz.func33, Tryz.ntmps33
  go_wp2
  go_ret
  exact ⟨rfl, rfl⟩
abbrev LnA : Type := { x : Nat × ByteArray // x.2.size ≤ 65536 }
abbrev encL (x : LnA) : Array Value := #[.int .i64 (x.1.1 : Int), .string x.1.2]
theorem astr_size (l : List UInt8) : (str l).size = l.length := by simp [str, ByteArray.size]
def mkA (i : Nat) (l : List UInt8) : LnA := ⟨(i, str (l.take 65536)), by rw [astr_size, List.length_take]; omega⟩
theorem mkA_enc (i : Nat) (l : List UInt8) (h : l.length ≤ 65536) : encL (mkA i l) = #[.int .i64 (i : Int), .string (str l)] := by
  show #[Value.int .i64 (i : Int), Value.string (str (l.take 65536))] = _
  rw [List.take_of_length_le h]
def numbered (i : Nat) : List (List UInt8) → List LnA
  | [] => []
  | l :: ls => mkA i l :: numbered (i + 1) ls
theorem numbered_len (i : Nat) (ls : List (List UInt8)) : (numbered i ls).length = ls.length := by
  induction ls generalizing i with
  | nil => rfl
  | cons l ls ih => simp [numbered, ih]
def strLen : Value → Nat
  | .string s => s.size
  | _ => 0
set_option maxHeartbeats 2000000 in
theorem all_stops (n : Nat) (hn : 1 ≤ n) (b : Nat) (l : List UInt8) (hl : l.length ≤ 65536) (w : World) (hbw : b < w.heap.size) (hb : w.cell? ⟨b, 0, none⟩ = some (.string (str l))) :
    SeqStopsK Fence.wide n Tryz.prog 65 #[.pointer (some ⟨b, 0, none⟩)] encL (fun _ _ => True) (fun xs => xs = numbered 1 (linesOf l)) (fun pre => pre <+: numbered 1 (linesOf l)) (linesOf l).length w := fun lp J Jx W hW hJ hJx hY h0 => by
  have hbW : W.cell? ⟨b, 0, none⟩ = some (.string (str l)) := (hW.cell (p := ⟨b, 0, none⟩) hbw).trans hb
  refine callsIn_of_wp Tryz.func65 rfl trivial ?_ rfl
  simp only [Tryz.ntmps65, List.size_toArray, List.length_cons, List.length_nil, Nat.reduceAdd, Nat.reduceSub, Array.replicate_succ, Array.replicate_zero, List.push_toArray, List.append_toArray, List.nil_append, List.cons_append]
  gi_wp2
  have hsz0 : W.heap.size ≤ W.heap.size := Nat.le_refl _
  gi_loopw [3, 4] (fun v3 v4 wr => ∃ (pre : List LnA) (rest : List UInt8) (k : Nat), v3 = .string (str rest) ∧ v4 = .int .i64 (k : Int) ∧ numbered 1 (linesOf l) = pre ++ numbered k (linesOf rest) ∧ rest.length ≤ 65536 ∧ k ≤ 65537 ∧ pre.length + 1 = k ∧ Hid (J pre wr)) (fun v3 _ _ => strLen v3)
  case atStart => exact ⟨[], l, 1, rfl, rfl, rfl, hl, by omega, rfl, h0⟩
  case round =>
    obtain ⟨pre, rest, k, rfl, rfl, hx, hr, hk, hpk, hJr⟩ := hrel
    by_cases hrest : rest = []
    · subst hrest
      have e1 := str_toList []
      gi_wp2
      go_end0
      exact ⟨⟨_, rfl⟩, .inl ⟨pre, by rw [hx, linesOf_nil]; simp [numbered], hJr.out⟩⟩
    · have e1 := str_toList rest
      have hb1 : rest.isEmpty = false := by simp [hrest]
      have hlm := linesOf_more rest hrest
      have hle := nlLen_le rest
      obtain ⟨ln, hln⟩ : ∃ ln, ln = rest.take (nlLen rest) := ⟨_, rfl⟩
      obtain ⟨rs, hrs⟩ : ∃ rs, rs = rest.drop (nlLen rest + 1) := ⟨_, rfl⟩
      have hlnl : ln.length ≤ 65536 := by rw [hln, List.length_take]; omega
      have hrsl : rs.length < rest.length := by
        have : 0 < rest.length := List.length_pos_iff.2 hrest
        rw [hrs, List.length_drop]
        omega
      have hC := Hid.intro (fun w => cut_any rest w (by omega))
      rw [← hln, ← hrs] at hC hlm
      have hx2 : Hid (numbered 1 (linesOf l) = (pre ++ [mkA k ln]) ++ numbered (k + 1) (linesOf rs)) := by
        show _ = _
        rw [hx, hlm]
        simp [numbered]
      have hlen : pre.length < (linesOf l).length := by
        have h2 := congrArg List.length hx2.out
        rw [numbered_len] at h2
        simp at h2
        omega
      clear hx hlm hln hrs hrest
      gi_wp2_with (first
        | (refine ⟨trivial, ?_⟩; gi_at_call 66; refine (callsIn_wide.2 (hC.out _)).mono ?_; rintro e w1 ⟨⟨bb, rfl⟩, hbe1⟩)
        | (refine ⟨trivial, ?_⟩; gi_at_call 39; refine (callsIn_wide.2 (clone_any (str ln) _ (by rw [astr_size]; omega))).mono ?_; rintro e w2 ⟨rfl, hbe2⟩; have hJ2 := hJ pre _ _ none (hJ pre _ _ none hJr.out (grown_of_below hbe1) (fun r e => by cases e)) (grown_of_below hbe2) (fun r e => by cases e); obtain ⟨fn, tmps, assign, body, hy, hR⟩ := hY pre (mkA k ln) w2 hJ2 hlen; rw [mkA_enc k ln hlnl] at hy))
      refine hR.mono ?_
      rintro e W3 (⟨rfl, hJ3, _⟩ | ⟨rfl, hJx3⟩)
      · gi_wp2
        go_roundw
        case rel => exact ⟨pre ++ [mkA k ln], rs, k + 1, rfl, by go_num, hx2.out, by omega, by have := linesOf_len l; omega, by simp; omega, hJ3⟩
        case measure =>
          show (str rs).size < (str rest).size
          rw [astr_size, astr_size]
          exact hrsl
      · gi_wp2
        refine bodyPost_ret (results_none rfl _ _ _) rfl ?_
        exact ⟨⟨_, rfl⟩, .inr ⟨pre ++ [mkA k ln], ⟨_, hx2.out.symm⟩, hJx3⟩⟩
end Go.Proofs.YtogkchgjpflmjaaGreatDoor
