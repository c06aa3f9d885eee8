/- The law's same: two lines held against each other. -/
import Derived.Test.YtlkmegchaeokgaaGreatDoorKnown
import Derived.Deep.QuietTactic
import Derived.BigQuiet
import Derived.WalkSmall
import Derived.WalkSpells
import Derived.Test.YtlkmegchaeokgaaGreatDoorRefTok
import Derived.Test.YtlkmegchaeokgaaGreatDoorTake
import Derived.Test.YtlkmegchaeokgaaGreatDoorSpec2
import Derived.Handy
/- Lists of tokens in memory, held against each other: book.Same, and the law's same. -/
namespace Go.Proofs.YtlkmegchaeokgaaGreatDoor
open Go.ChangeShapes Go.WideShapes Go.ChangeAt Go.RowKit
set_option linter.unusedVariables false
set_option maxRecDepth 100000
def TokLies (w : World) (a : Option Addr) (ts : List Tok) : Prop := ts = [] ∨ ∃ g, a = some ⟨g, 0, none⟩ /\ g < w.heap.size /\ ∀ i t, ts[i]? = some t -> TokAt w g i t
theorem TokLies.below {w w' : World} {a : Option Addr} {ts : List Tok} {B : Nat} (h : TokLies w a ts) (hb : Below B w w') (hB : w.heap.size <= B) : TokLies w' a ts := by
 rcases h with h | ⟨g, ha, hg, h⟩
 ·exact .inl h
 ·exact .inr ⟨g, ha, Nat.lt_of_lt_of_le hg hb.size, fun i t hi => (h i t hi).below hb (by omega)⟩
theorem own_any' {w : World} {B n : Nat} {T : TypeId} {v : Value} {xs : List Value} (h : w.ownsRow B T 4 v n xs) : ∃ a cap, v = .slice a n cap := by
 obtain ⟨hl, ⟨hv, h0⟩ | ⟨g, cap, cur, hv, r⟩⟩ := h
 ·exact ⟨none, 0, by rw [hv, h0]⟩
 ·exact ⟨_, cap, hv⟩
theorem own_lies {w : World} {B : Nat} {T : TypeId} {v : Value} {ts : List Tok} (h : w.ownsRow B T 4 v ts.length (rowOf ts)) : ∃ a cap, v = .slice a ts.length cap /\ TokLies w a ts := by
 cases ts with
 | nil =>
  obtain ⟨a, cap, hv⟩ := own_any' h
  exact ⟨a, cap, hv, .inl rfl⟩
 | cons t ts =>
  obtain ⟨g, cap, rfl, _, hg⟩ := own_form (n := ts.length) h
  exact ⟨_, cap, rfl, .inr ⟨g, rfl, hg, fun i x hi => tok_at h i x hi⟩⟩
end Go.Proofs.YtlkmegchaeokgaaGreatDoor
/- The law's sameArg: tokens of the program held against the document's. -/
namespace Go.Proofs.YtlkmegchaeokgaaGreatDoor
open Go.ChangeShapes Go.WideShapes Go.ChangeAt Go.RowKit
set_option linter.unusedVariables false
set_option maxRecDepth 100000
end Go.Proofs.YtlkmegchaeokgaaGreatDoor
/- What a line is, as a function on its tokens. -/
namespace Go.Proofs.YtlkmegchaeokgaaGreatDoor
set_option linter.unusedVariables false
structure Ln where
 label : List UInt8
 op : List UInt8
 args : List (List Tok)
def argsF (e : Nat) : List Tok -> List Tok -> List (List Tok) -> Except Nat (List (List Tok))
 | [], arg, acc => if arg.length = 0 then .error e else .ok (acc ++ [arg])
 | t :: ts, arg, acc =>
  if isS t 58 = true then .error t.place
  else if isS t 44 = true then (if arg.length = 0 then .error t.place else argsF e ts [] (acc ++ [arg]))
  else argsF e ts (arg ++ [t]) acc
def argsT (e : Nat) (ts : List Tok) : Except Nat (List (List Tok)) := if ts.length = 0 then .ok [] else argsF e ts [] []
def cutT (ts : List Tok) : List UInt8 × List Tok :=
 match ts with
 | t :: u :: r => if t.kind = 1 /\ isS u 58 = true then (t.text, r) else ([], t :: u :: r)
 | ts => ([], ts)
def lineT (n : Nat) (label : List UInt8) (ts : List Tok) : Except Nat Ln :=
 match ts with
 | [] => .ok ⟨label, [], []⟩
 | t :: r => if t.kind = 1 then
   match argsT n r with
   | .ok xs => .ok ⟨label, t.text, xs⟩
   | .error p => .error p
  else .error t.place
def parseT (n : Nat) (ts : List Tok) : Except Nat Ln := lineT n (cutT ts).1 (cutT ts).2
def parseL (s : List UInt8) : Except Nat Ln :=
 match scan s 0 with
 | .error p => .error p
 | .ok ts => parseT s.length ts
theorem argsF_sign (e : Nat) (t : Tok) (ts arg : List Tok) (acc : List (List Tok)) (h : isS t 58 = true) : argsF e (t :: ts) arg acc = .error t.place := by
 rw [argsF, if_pos h]
theorem argsF_empty (e : Nat) (t : Tok) (ts arg : List Tok) (acc : List (List Tok)) (h : isS t 58 = false) (hc : isS t 44 = true) (h0 : arg.length = 0) : argsF e (t :: ts) arg acc = .error t.place := by
 rw [argsF, if_neg (by rw [h]; decide), if_pos hc, if_pos h0]
theorem argsF_comma (e : Nat) (t : Tok) (ts arg : List Tok) (acc : List (List Tok)) (h : isS t 58 = false) (hc : isS t 44 = true) (h0 : arg.length ≠ 0) : argsF e (t :: ts) arg acc = argsF e ts [] (acc ++ [arg]) := by
 rw [argsF, if_neg (by rw [h]; decide), if_pos hc, if_neg h0]
theorem argsF_more (e : Nat) (t : Tok) (ts arg : List Tok) (acc : List (List Tok)) (h : isS t 58 = false) (hc : isS t 44 = false) : argsF e (t :: ts) arg acc = argsF e ts (arg ++ [t]) acc := by
 rw [argsF, if_neg (by rw [h]; decide), if_neg (by rw [hc]; decide)]
theorem isS_kind (t : Tok) (c : UInt8) (h : t.kind ≠ 3) : isS t c = false := by simp [isS, h]
theorem lisS_text (t : Tok) (c : UInt8) (h : t.kind = 3) : isS t c = decide (t.text = [c]) := by simp [isS, h]
end Go.Proofs.YtlkmegchaeokgaaGreatDoor
/- line.isSign, and the document's sign. -/
namespace Go.Proofs.YtlkmegchaeokgaaGreatDoor
open Go.ChangeShapes Go.WideShapes Go.ChangeAt Go.RowKit
set_option linter.unusedVariables false
set_option maxRecDepth 100000
abbrev ltokV (t : Tok) : Value := .agg #[.int .i64 t.kind, .string (str t.text), .int .u32 t.num, .int .i64 (t.place : Int)]
theorem lineSign_any (t : Tok) (c : UInt8) (w : World) :
  Calls Tryz.prog 71 #[ltokV t, .string ⟨#[c]⟩] w fun e w' => e = .returned (.bool (isS t c)) /\ ∃ o, w' = w.alloc o := by
 by_cases hk : t.kind = 3
 ·go_enter Tryz.func71, Tryz.ntmps71
  go_wp2
  go_ret
  refine ⟨?_, _, rfl⟩
  rw [lisS_text t c hk, str_toList]
  show Ending.returned (Value.bool (t.text == [c])) = _
  rw [show (t.text == [c]) = decide (t.text = [c]) by by_cases h : t.text = [c] <;> simp [h]]
 ·have hk' : (t.kind == 3) = false := by simp [hk]
  rw [isS_kind t c hk]
  go_enter Tryz.func71, Tryz.ntmps71
  go_wp2
  go_ret
  exact ⟨rfl, _, rfl⟩
theorem refSign_any (t : Tok) (c : UInt8) (w : World) :
  Calls Tryz.prog 52 #[ltokV t, .string ⟨#[c]⟩] w fun e w' => e = .returned (.bool (isS t c)) /\ ∃ o, w' = w.alloc o := by
 by_cases hk : t.kind = 3
 ·go_enter Tryz.func52, Tryz.ntmps52
  go_wp2
  go_ret
  refine ⟨?_, _, rfl⟩
  rw [lisS_text t c hk, str_toList]
  show Ending.returned (Value.bool (t.text == [c])) = _
  rw [show (t.text == [c]) = decide (t.text = [c]) by by_cases h : t.text = [c] <;> simp [h]]
 ·have hk' : (t.kind == 3) = false := by simp [hk]
  rw [isS_kind t c hk]
  go_enter Tryz.func52, Tryz.ntmps52
  go_wp2
  go_ret
  exact ⟨rfl, _, rfl⟩
end Go.Proofs.YtlkmegchaeokgaaGreatDoor
/- Tokens as they lie; small steps. -/
namespace Go.Proofs.YtlkmegchaeokgaaGreatDoor
open Go.ChangeShapes Go.WideShapes Go.ChangeAt Go.RowKit
set_option linter.unusedVariables false
set_option maxRecDepth 100000
end Go.Proofs.YtlkmegchaeokgaaGreatDoor
/- line.cutLabel. -/
namespace Go.Proofs.YtlkmegchaeokgaaGreatDoor
open Go.ChangeShapes Go.WideShapes Go.ChangeAt Go.RowKit
set_option linter.unusedVariables false
set_option maxRecDepth 100000
theorem cutLabel_few (a : Option Addr) (n c : Nat) (w : World) (hn : n < 2) :
  Calls Tryz.prog 40 #[.slice a n c] w fun e w' => e = .returned (.tuple #[.string ⟨#[]⟩, .slice a n c]) /\ w' = w := by
 go_enter Tryz.func40, Tryz.ntmps40
 go_wp2
 all_goals first | omega | skip
 go_ret2
 exact ⟨rfl, rfl⟩
theorem lbelow_alloc (w : World) (o : Obj) : Below w.heap.size w (w.alloc o) := (Below.refl _ w).alloc (Nat.le_refl _) o
theorem lineSign_b (t : Tok) (c : UInt8) (b : Bool) (h : isS t c = b) (w : World) :
  Calls Tryz.prog 71 #[ltokV t, .string ⟨#[c]⟩] w fun e w' => e = .returned (.bool b) /\ Below w.heap.size w w' := by
 refine (lineSign_any t c w).mono ?_
 rintro e w' ⟨rfl, o, rfl⟩
 exact ⟨by rw [h], lbelow_alloc w o⟩
theorem TokOff.below {w w' : World} {g o : Nat} {t : Tok} {B : Nat} (h : TokOff w g o t) (hb : Below B w w') (hg : g < B) : TokOff w' g o t :=
 ⟨by rw [hb.cell (p := ⟨g, o, none⟩) hg]; exact h.kind, by rw [hb.cell (p := ⟨g, o + 1, none⟩) hg]; exact h.text, by rw [hb.cell (p := ⟨g, o + 2, none⟩) hg]; exact h.num, by rw [hb.cell (p := ⟨g, o + 3, none⟩) hg]; exact h.place⟩
theorem TokFrom.below {w w' : World} {a : Option Addr} {ts : List Tok} {B : Nat} (h : TokFrom w a ts) (hb : Below B w w') (hB : w.heap.size <= B) : TokFrom w' a ts := by
 rcases h with h | ⟨g, o, ha, hg, h⟩
 ·exact .inl h
 ·exact .inr ⟨g, o, ha, Nat.lt_of_lt_of_le hg hb.size, fun i t hi => (h i t hi).below hb (by omega)⟩
theorem cutLabel_many (g n c : Nat) (t u : Tok) (w : World) (hn : 2 <= n) (hm : n <= 1100000) (hc : n <= c) (hcc : c <= maxLen) (hg : g < w.heap.size) (h0 : TokAt w g 0 t) (h1 : TokAt w g 1 u) (hk : t.kind = 1) (hu : isS u 58 = true) :
  Calls Tryz.prog 40 #[.slice (some ⟨g, 0, none⟩) n c] w fun e w' => Below w.heap.size w w' /\ ∃ o c', e = .returned (.tuple #[.string (str t.text), .slice (some ⟨g, o, none⟩) (n - 2) c']) /\ n - 2 <= c' /\ c' <= 9223372036854775807 /\ (n ≠ 2 -> o = 8) := by
 unfold maxLen at hcc
 have hH := Hid.intro h0
 obtain ⟨q0, q1, q2, q3⟩ := h0
 obtain ⟨p0, p1, p2, p3⟩ := h1
 simp only [Nat.zero_mul, Nat.zero_add, Nat.one_mul, Nat.reduceAdd] at q0 q1 q2 q3 p0 p1 p2 p3
 have hS := Hid.intro (lineSign_b u 58 true hu)
 have hk' : (t.kind != 1) = false := by simp [hk]
 clear hk hu
 go_enter Tryz.func40, Tryz.ntmps40
 go_wp2_with (go_at_call 71; with_reducible refine (hS.out _).mono ?_; rintro e w1 ⟨rfl, hb1⟩; obtain ⟨k0, k1, k2, k3⟩ := hH.out.below hb1 hg; simp only [Nat.zero_mul, Nat.zero_add] at k0 k1 k2 k3)
 all_goals first | omega | skip
 go_quiet (fail)
 go_wp2
 all_goals first | omega | skip
 ·rename_i hc2
  go_ret2
  exact ⟨below_drewN hb1 nq, 0, 0, rfl, by omega, by omega, by omega⟩
 ·go_ret2
  exact ⟨below_drewN hb1 nq, 8, c - 2, rfl, by omega, by omega, fun _ => rfl⟩
theorem cutLabel_not (g n c : Nat) (t u : Tok) (w : World) (hn : 2 <= n) (hm : n <= 1100000) (hg : g < w.heap.size) (h0 : TokAt w g 0 t) (h1 : TokAt w g 1 u) (h : ¬ (t.kind = 1 /\ isS u 58 = true)) :
  Calls Tryz.prog 40 #[.slice (some ⟨g, 0, none⟩) n c] w fun e w' => Below w.heap.size w w' /\ e = .returned (.tuple #[.string ⟨#[]⟩, .slice (some ⟨g, 0, none⟩) n c]) := by
 obtain ⟨q0, q1, q2, q3⟩ := h0
 obtain ⟨p0, p1, p2, p3⟩ := h1
 simp only [Nat.zero_mul, Nat.zero_add, Nat.one_mul, Nat.reduceAdd] at q0 q1 q2 q3 p0 p1 p2 p3
 by_cases hk : t.kind = 1
 ·have hu : isS u 58 = false := by
   cases hx : isS u 58
   ·rfl
   ·exact absurd ⟨hk, hx⟩ h
  have hS := Hid.intro (lineSign_b u 58 false hu)
  have hk' : (t.kind != 1) = false := by simp [hk]
  clear hk hu h
  go_enter Tryz.func40, Tryz.ntmps40
  go_wp2_with (go_at_call 71; with_reducible refine (hS.out _).mono ?_; rintro e w1 ⟨rfl, hb1⟩)
  all_goals first | omega | skip
  go_ret2
  exact ⟨hb1, rfl⟩
 ·have hk' : (t.kind != 1) = true := by simp [hk]
  clear hk h
  go_enter Tryz.func40, Tryz.ntmps40
  go_wp2
  all_goals first | omega | skip
  go_ret2
  exact ⟨Below.refl _ _, rfl⟩
theorem tokAt_off {w : World} {g i : Nat} {t : Tok} (h : TokAt w g i t) : TokOff w g (i * 4) t := ⟨h.kind, h.text, h.num, h.place⟩
theorem cutLabel_any (v : Value) (ts : List Tok) (B : Nat) (w : World) (hm : ts.length <= 1100000) (hown : w.ownsRow B 64 4 v ts.length (rowOf ts)) :
  Calls Tryz.prog 40 #[v] w fun e w' => Below w.heap.size w w' /\ ∃ a' c', e = .returned (.tuple #[.string (str (cutT ts).1), .slice a' (cutT ts).2.length c']) /\ (cutT ts).2.length <= c' /\ c' <= 9223372036854775807 /\ TokFrom w' a' (cutT ts).2 /\ ∀ x, a' = some x -> B <= x.block := by
 match ts, hm, hown with
 | [], hm, hown =>
  obtain ⟨hl, ⟨hv, h0⟩ | ⟨g, cap, cur, hv, hbg, hgg, hle, hcap, hsz, htk⟩⟩ := hown
  ·subst hv
   refine (cutLabel_few none 0 0 w (by omega)).mono ?_
   rintro e w' ⟨rfl, rfl⟩
   exact ⟨Below.refl _ _, none, 0, rfl, by simp [cutT], by omega, .inl rfl, fun x hx => by cases hx⟩
  ·subst hv
   refine (cutLabel_few _ _ cap w (by simp)).mono ?_
   rintro e w' ⟨rfl, rfl⟩
   unfold maxLen at hcap
   exact ⟨Below.refl _ _, _, cap, rfl, by simp [cutT], by omega, .inl rfl, fun x hx => by cases hx; exact hbg⟩
 | [t], hm, hown =>
  have hown' := hown
  obtain ⟨hl, ⟨hv, h0⟩ | ⟨g, cap, cur, hv, hbg, hgg, hle, hcap, hsz, htk⟩⟩ := hown
  ·simp at h0
  ·subst hv
   refine (cutLabel_few _ _ cap w (by simp)).mono ?_
   rintro e w' ⟨rfl, rfl⟩
   unfold maxLen at hcap
   refine ⟨Below.refl _ _, _, cap, rfl, by simpa [cutT] using hle, by omega, .inr ⟨g, 0, rfl, (Array.getElem?_eq_some_iff.1 hgg).1, fun i x hi => ?_⟩, fun x hx => by cases hx; exact hbg⟩
   rw [Nat.zero_add]
   exact tokAt_off (tok_at hown' i x hi)
 | t :: u :: r, hm, hown =>
  have hown' := hown
  obtain ⟨hl, ⟨hv, h0⟩ | ⟨g, cap, cur, hv, hbg, hgg, hle, hcap, hsz, htk⟩⟩ := hown
  ·simp at h0
  ·subst hv
   have hg := (Array.getElem?_eq_some_iff.1 hgg).1
   have h0 := tok_at hown' 0 t rfl
   have h1 := tok_at hown' 1 u rfl
   by_cases h : t.kind = 1 /\ isS u 58 = true
   ·have e1 : cutT (t :: u :: r) = (t.text, r) := by simp only [cutT]; rw [if_pos h]
    rw [e1]
    refine (cutLabel_many g _ cap t u w (by simp) hm hle hcap hg h0 h1 h.1 h.2).mono ?_
    rintro e w' ⟨hb, o, c', rfl, hc1, hc2, ho⟩
    refine ⟨hb, _, c', rfl, by simpa using hc1, hc2, ?_, fun x hx => by cases hx; exact hbg⟩
    cases r with
    | nil => exact .inl rfl
    | cons x r =>
     have ho8 : o = 8 := ho (by simp)
     subst ho8
     refine .inr ⟨g, 8, rfl, Nat.lt_of_lt_of_le hg hb.size, fun i y hi => ?_⟩
     have := (tokAt_off (tok_at hown' (i + 2) y (by simpa using hi))).below hb hg
     rw [show (i + 2) * 4 = 8 + i * 4 by omega] at this
     exact this
   ·have e1 : cutT (t :: u :: r) = ([], t :: u :: r) := by simp only [cutT]; rw [if_neg h]
    rw [e1]
    refine (cutLabel_not g _ cap t u w (by simp) hm hg h0 h1 h).mono ?_
    rintro e w' ⟨hb, rfl⟩
    unfold maxLen at hcap
    refine ⟨hb, _, cap, rfl, hle, by omega, .inr ⟨g, 0, rfl, Nat.lt_of_lt_of_le hg hb.size, fun i x hi => ?_⟩, fun x hx => by cases hx; exact hbg⟩
    rw [Nat.zero_add]
    exact (tokAt_off (tok_at hown' i x hi)).below hb hg
end Go.Proofs.YtlkmegchaeokgaaGreatDoor
/- Arguments in memory: a list of lists of tokens, each in a block of its own. -/
namespace Go.Proofs.YtlkmegchaeokgaaGreatDoor
open Go.ChangeShapes Go.WideShapes Go.ChangeAt Go.RowKit
set_option linter.unusedVariables false
set_option maxRecDepth 100000
theorem lgrown_of_below {w w' : World} (h : Below w.heap.size w w') : w.grownBy w' none := ⟨h.os, h.tape, h.output, h.size, fun k hk _ => h.block k hk⟩
structure ArgsOwn (T E : TypeId) (lo : Nat) (w : World) (va : Value) (acc : List (List Tok)) (vs : List Value) (m : Nat) : Prop where
 len : vs.length = acc.length
 row : w.ownsRow lo T 1 va vs.length vs
 each : ∀ (i : Nat) (v : Value) (xs : List Tok), vs[i]? = some v -> acc[i]? = some xs -> xs.length ≠ 0 /\ w.ownsRow lo E 4 v xs.length (rowOf xs)
 low : ∀ (i : Nat) (v : Value) (g : Nat), vs[i]? = some v -> v.ownBlock = some g -> g < m
 rise : ∀ (i j : Nat) (v v' : Value) (g g' : Nat), i < j -> vs[i]? = some v -> vs[j]? = some v' -> v.ownBlock = some g -> v'.ownBlock = some g' -> g < g'
 le : m <= w.heap.size
theorem lown_type {w : World} {lo : Nat} {T : TypeId} {sz : Nat} {v : Value} {n : Nat} {xs : List Value} (h : w.ownsRow lo T sz v n xs) {g : Nat} (hg : v.ownBlock = some g) : ∃ cur, w.heap[g]? = some (.cells cur T (0, 0)) := by
 rcases h.2 with ⟨rfl, _⟩ | ⟨g', cap, cur, rfl, _, hgg, _⟩
 ·simp [Value.ownBlock] at hg
 ·simp [Value.ownBlock] at hg
  subst hg
  exact ⟨cur, hgg⟩
theorem own_other {w : World} {lo lo' : Nat} {T T' : TypeId} {sz sz' : Nat} {v v' : Value} {n n' : Nat} {xs xs' : List Value} (h : w.ownsRow lo T sz v n xs) (h' : w.ownsRow lo' T' sz' v' n' xs') (hT : T ≠ T') : v.ownBlock = none ∨ v.ownBlock ≠ v'.ownBlock := by
 cases hv : v.ownBlock with
 | none => exact .inl rfl
 | some g =>
  refine .inr fun e => ?_
  obtain ⟨c1, e1⟩ := lown_type h hv
  obtain ⟨c2, e2⟩ := lown_type h' e.symm
  rw [e1] at e2
  injection e2 with e2
  injection e2 with _ e2
  exact hT e2
theorem ArgsOwn.start (T E : TypeId) (lo : Nat) (w : World) (m : Nat) (hm : m <= w.heap.size) : ArgsOwn T E lo w (.slice none 0 0) [] [] m :=
 ⟨rfl, World.ownsRow_nil _ _ _ _, fun i v xs h => by simp at h, fun i v g h => by simp at h, fun i j v v' g g' _ h => by simp at h, hm⟩
theorem ArgsOwn.grown {T E : TypeId} {lo : Nat} {w w' : World} {va : Value} {acc : List (List Tok)} {vs : List Value} {m : Nat} (h : ArgsOwn T E lo w va acc vs m) {row : Option Nat} (hg : w.grownBy w' row)
  (h1 : va.ownBlock = none ∨ va.ownBlock ≠ row) (h2 : ∀ k, row = some k -> m <= k) : ArgsOwn T E lo w' va acc vs m := by
 refine ⟨h.len, h.row.kept hg h1, fun i v xs hv hx => ?_, h.low, h.rise, Nat.le_trans h.le hg.size⟩
 obtain ⟨h0, ho⟩ := h.each i v xs hv hx
 refine ⟨h0, ho.kept hg ?_⟩
 cases hb : v.ownBlock with
 | none => exact .inl rfl
 | some g =>
  refine .inr fun e => ?_
  have k1 := h.low i v g hv hb
  have k2 := h2 g e.symm
  omega
theorem ArgsOwn.below {T E : TypeId} {lo : Nat} {w w' : World} {va : Value} {acc : List (List Tok)} {vs : List Value} {m : Nat} (h : ArgsOwn T E lo w va acc vs m) (hb : Below w.heap.size w w') : ArgsOwn T E lo w' va acc vs m :=
 h.grown (lgrown_of_below hb) (by cases va.ownBlock <;> simp) (fun k e => by cases e)
theorem ArgsOwn.arg {T E : TypeId} {lo : Nat} {w w' : World} {va : Value} {acc : List (List Tok)} {vs : List Value} {m : Nat} (h : ArgsOwn T E lo w va acc vs m) (hT : T ≠ E) {v : Value} {n : Nat} {xs : List Value} (hv : w.ownsRow m E 4 v n xs) (hg : w.grownBy w' v.ownBlock) : ArgsOwn T E lo w' va acc vs m :=
 h.grown hg (own_other h.row hv hT) (fun k e => (hv.lt k e).1)
theorem ArgsOwn.push {T E : TypeId} {lo : Nat} {w w' : World} {va va' : Value} {acc : List (List Tok)} {vs : List Value} {m : Nat} (h : ArgsOwn T E lo w va acc vs m) (hT : T ≠ E) (hlo : lo <= m) {v : Value} {xs : List Tok} (h0 : xs.length ≠ 0) (hv : w.ownsRow m E 4 v xs.length (rowOf xs))
  (hg : w.grownBy w' va.ownBlock) (hrow : w'.ownsRow lo T 1 va' (vs.length + 1) (vs ++ [v])) : ArgsOwn T E lo w' va' (acc ++ [xs]) (vs ++ [v]) w'.heap.size := by
 have hv' : w'.ownsRow lo E 4 v xs.length (rowOf xs) := by
  have := hv.kept hg (own_other hv h.row (Ne.symm hT))
  refine ⟨this.1, ?_⟩
  rcases this.2 with hx | ⟨g, cap, cur, k1, k2, k3⟩
  ·exact .inl hx
  ·exact .inr ⟨g, cap, cur, k1, by omega, k3⟩
 have hlt : ∀ (i : Nat) (u : Value), (vs ++ [v])[i]? = some u -> (i < vs.length /\ vs[i]? = some u) ∨ (i = vs.length /\ u = v) := fun i u hu => by
  by_cases hi : i < vs.length
  ·rw [List.getElem?_append_left hi] at hu; exact .inl ⟨hi, hu⟩
  ·rw [List.getElem?_append_right (by omega)] at hu
   have : i - vs.length = 0 := by
    apply Decidable.byContradiction
    intro hn
    rw [List.getElem?_eq_none (by simp; omega)] at hu
    cases hu
   rw [this] at hu
   simp at hu
   exact .inr ⟨by omega, hu.symm⟩
 refine ⟨by simp [h.len], by simpa using hrow, fun i u ys hu hy => ?_, fun i u g hu hb => ?_, fun i j u u' g g' hij hu hu' hb hb' => ?_, Nat.le_refl _⟩
 ·rcases hlt i u hu with ⟨hi, hu⟩ | ⟨hi, hu⟩
  ·rw [List.getElem?_append_left (by rw [<- h.len]; exact hi)] at hy
   obtain ⟨k0, k1⟩ := h.each i u ys hu hy
   exact ⟨k0, k1.kept hg (own_other k1 h.row (Ne.symm hT))⟩
  ·subst hu
   rw [hi, h.len, List.getElem?_append_right (Nat.le_refl _), Nat.sub_self] at hy
   simp at hy
   subst hy
   exact ⟨h0, hv'⟩
 ·rcases hlt i u hu with ⟨hi, hu⟩ | ⟨hi, hu⟩
  ·have := h.low i u g hu hb
   have := h.le
   have := hg.size
   omega
  ·subst hu
   exact (hv'.lt g hb).2
 ·rcases hlt i u hu with ⟨hi, k1⟩ | ⟨hi, k1⟩
  ·rcases hlt j u' hu' with ⟨hj, k2⟩ | ⟨hj, k2⟩
   ·exact h.rise i j u u' g g' hij k1 k2 hb hb'
   ·rw [k2] at hb'
    have k3 := h.low i u g k1 hb
    have k4 := (hv.lt g' hb').1
    omega
  ·rcases hlt j u' hu' with ⟨hj, k2⟩ | ⟨hj, k2⟩
   ·omega
   ·omega
end Go.Proofs.YtlkmegchaeokgaaGreatDoor
/- line.arguments. -/
namespace Go.Proofs.YtlkmegchaeokgaaGreatDoor
open Go.ChangeShapes Go.WideShapes Go.ChangeAt Go.RowKit
set_option linter.unusedVariables false
set_option maxRecDepth 100000
theorem Tryz.info55 : (Tryz.prog.info? 55).map (fun i => (i.zero, i.size, i.bytes)) = some (some (.slice none 0 0), 1, 24) := by kernel_rfl
abbrev ltokO (t : Tok) : Obj := .cells #[.int .i64 t.kind, .string (str t.text), .int .u32 t.num, .int .i64 (t.place : Int)] 64
theorem box_new (w : World) (t : Tok) : TokOff (w.alloc (ltokO t)) w.heap.size 0 t := by
 have key : ∀ k, (w.alloc (ltokO t)).cell? ⟨w.heap.size, k, none⟩ = (#[Value.int .i64 t.kind, .string (str t.text), .int .u32 t.num, .int .i64 (t.place : Int)] : Array Value)[k]? := fun k => by
  rw [cell_of_row _ _ _ _ 64 (0, 0) (heap_alloc_new w _)]
 exact ⟨key 0, key 1, key 2, key 3⟩
theorem box_below {w w1 : World} {t : Tok} (hb : Below (w.alloc (ltokO t)).heap.size (w.alloc (ltokO t)) w1) : TokOff w1 w.heap.size 0 t := (box_new w t).below hb (by simp)
theorem lalloc_lt {w w1 : World} {o : Obj} (hb : Below (w.alloc o).heap.size (w.alloc o) w1) : w.heap.size < w1.heap.size := by
 have := hb.size
 simp at this
 omega
theorem lone_below {w w1 : World} {o : Obj} (hb : Below (w.alloc o).heap.size (w.alloc o) w1) : Below w.heap.size w w1 := (lbelow_alloc w o).trans (hb.mono (by simp))
theorem ltwo_below {w w1 w2 : World} {o : Obj} (hb : Below (w.alloc o).heap.size (w.alloc o) w1) (hb2 : Below w1.heap.size w1 w2) : Below w.heap.size w w2 := (lone_below hb).trans (hb2.mono (lone_below hb).size)
structure LASt (ts : List Tok) (e : Nat) (w0 : World) (R : Except Nat (List (List Tok))) (i : Nat) (arg : List Tok) (acc : List (List Tok)) (va v : Value) (vs : List Value) (m : Nat) (w : World) : Prop where
 le : i <= ts.length
 few : arg.length <= i
 fewA : acc.length <= i
 eq : R = argsF e (ts.drop i) arg acc
 own : w.ownsRow m 64 4 v arg.length (rowOf arg)
 args : ArgsOwn 55 64 w0.heap.size w va acc vs m
 lo : w0.heap.size <= m
 bel : Below w0.heap.size w0 w
def AOut (B : Nat) (w0 : World) (R : Except Nat (List (List Tok))) (e : Ending) (w' : World) : Prop := Below B w0 w' /\
 match R with
 | .ok acc => ∃ va vs m, e = .returned (.tuple #[va, .int .i64 0, .int .i64 0]) /\ ArgsOwn 55 64 B w' va acc vs m
 | .error p => e = .returned (.tuple #[.slice none 0 0, .int .i64 (p : Int), .int .i64 20])
theorem lown_slice {w : World} {lo : Nat} {T : TypeId} {sz : Nat} {v : Value} {n : Nat} {xs : List Value} (h : w.ownsRow lo T sz v n xs) : ∃ a c, v = .slice a n c := by
 obtain ⟨hl, ⟨hv, h0⟩ | ⟨g, cap, cur, hv, r⟩⟩ := h
 ·exact ⟨none, 0, by rw [hv, h0]⟩
 ·exact ⟨_, cap, hv⟩
theorem ldrop_at {α : Type} (ts : List α) (i : Nat) (t : α) (h : ts[i]? = some t) : ts.drop i = t :: ts.drop (i + 1) := by
 obtain ⟨hi, he⟩ := List.getElem?_eq_some_iff.1 h
 rw [List.drop_eq_getElem_cons hi, he]
theorem ast_more {ts : List Tok} {e : Nat} {w0 : World} {R : Except Nat (List (List Tok))} {i : Nat} {arg : List Tok} {acc : List (List Tok)} {va v : Value} {vs : List Value} {m : Nat} {w : World} (h : LASt ts e w0 R i arg acc va v vs m w)
  (t : Tok) (ht : ts[i]? = some t) (h1 : isS t 58 = false) (h2 : isS t 44 = false) (w2 w3 : World) (v2 : Value) (o : Obj) (hb : Below w.heap.size w w2) (hg : (w2.alloc o).grownBy w3 v.ownBlock)
  (ho : w3.ownsRow m 64 4 v2 (arg.length + 1) (rowOf arg ++ t.cells)) : LASt ts e w0 R (i + 1) (arg ++ [t]) acc va v2 vs m w3 := by
 have hi := (List.getElem?_eq_some_iff.1 ht).1
 have hf := h.few
 have hfA := h.fewA
 have hsz := h.bel.size
 have hb' := hb.size
 have hlo := h.lo
 have hm := h.args.le
 refine ⟨by omega, by simp; omega, by omega, ?_, ?_, ?_, h.lo, ?_⟩
 ·rw [h.eq, ldrop_at ts i t ht, argsF_more _ _ _ _ _ h1 h2]
 ·rw [rowOf_push, List.length_append]
  exact ho
 ·exact ((h.args.below hb).below (lbelow_alloc w2 o)).arg (by decide) ((ownsRow_below h.own hb).alloc o) hg
 ·exact ((h.bel.trans (hb.mono (by omega))).alloc (by omega) o).grown hg (by simp; omega) (fun k hk => by have := (h.own.lt k hk).1; omega)
theorem ast_comma {ts : List Tok} {e : Nat} {w0 : World} {R : Except Nat (List (List Tok))} {i : Nat} {arg : List Tok} {acc : List (List Tok)} {va v : Value} {vs : List Value} {m : Nat} {w : World} (h : LASt ts e w0 R i arg acc va v vs m w)
  (t : Tok) (ht : ts[i]? = some t) (h1 : isS t 58 = false) (h2 : isS t 44 = true) (h0 : arg.length ≠ 0) (w2 w3 : World) (va2 : Value) (o : Obj) (hb : Below w.heap.size w w2) (hg : (w2.alloc o).grownBy w3 va.ownBlock)
  (ho : w3.ownsRow w0.heap.size 55 1 va2 (vs.length + 1) (vs ++ [v])) : LASt ts e w0 R (i + 1) [] (acc ++ [arg]) va2 (.slice none 0 0) (vs ++ [v]) w3.heap.size w3 := by
 have hi := (List.getElem?_eq_some_iff.1 ht).1
 have hf := h.few
 have hfA := h.fewA
 have hsz := h.bel.size
 have hb' := hb.size
 have hlo := h.lo
 have hm := h.args.le
 have hg' := hg.size
 simp at hg'
 refine ⟨by omega, by simp, by simp; omega, ?_, World.ownsRow_nil _ _ _ _, ?_, by omega, ?_⟩
 ·rw [h.eq, ldrop_at ts i t ht, argsF_comma _ _ _ _ _ h1 h2 h0]
 ·exact ((h.args.below hb).below (lbelow_alloc w2 o)).push (by decide) h.lo h0 ((ownsRow_below h.own hb).alloc o) hg ho
 ·exact ((h.bel.trans (hb.mono (by omega))).alloc (by omega) o).grown hg (by simp; omega) (fun k hk => (h.args.row.lt k hk).1)
theorem ast_end {ts : List Tok} {e : Nat} {w0 : World} {R : Except Nat (List (List Tok))} {arg : List Tok} {acc : List (List Tok)} {va v : Value} {vs : List Value} {m : Nat} {w : World} (h : LASt ts e w0 R ts.length arg acc va v vs m w)
  (h0 : arg.length ≠ 0) (w3 : World) (va2 : Value) (o : Obj) (hg : (w.alloc o).grownBy w3 va.ownBlock) (ho : w3.ownsRow w0.heap.size 55 1 va2 (vs.length + 1) (vs ++ [v])) :
  AOut w0.heap.size w0 R (.returned (.tuple #[va2, .int .i64 0, .int .i64 0])) w3 := by
 have hsz := h.bel.size
 have hm := h.args.le
 have hR : R = .ok (acc ++ [arg]) := by rw [h.eq, List.drop_length, argsF, if_neg h0]
 rw [hR]
 refine ⟨(h.bel.alloc (by omega) o).grown hg (by simp; omega) (fun k hk => (h.args.row.lt k hk).1), va2, vs ++ [v], w3.heap.size, rfl, ?_⟩
 exact (h.args.below (lbelow_alloc w o)).push (by decide) h.lo h0 (h.own.alloc o) hg ho
end Go.Proofs.YtlkmegchaeokgaaGreatDoor
/- line.arguments: the walk. -/
namespace Go.Proofs.YtlkmegchaeokgaaGreatDoor
open Go.ChangeShapes Go.WideShapes Go.ChangeAt Go.RowKit
set_option linter.unusedVariables false
set_option maxRecDepth 100000
set_option maxHeartbeats 2000000 in
theorem arguments_any (a : Option Addr) (c : Nat) (ts : List Tok) (e : Nat) (w : World) (hm : ts.length <= 1100000) (he : e <= 1100000) (hT : TokFrom w a ts) :
  Calls Tryz.prog 41 #[.slice a ts.length c, .int .i64 (e : Int)] w fun x w' => AOut w.heap.size w (argsT e ts) x w' := by
 obtain ⟨n0, hn0⟩ : ∃ n0, n0 = ts.length := ⟨_, rfl⟩
 rw [<- hn0] at hm ⊢
 by_cases h0 : n0 = 0
 ·have hR : argsT e ts = .ok [] := by unfold argsT; rw [if_pos (by omega)]
  rw [hR]
  subst h0
  go_enter Tryz.func41, Tryz.ntmps41
  go_wp2
  go_ret3
  exact ⟨Below.refl _ _, _, _, w.heap.size, rfl, ArgsOwn.start _ _ _ _ _ (Nat.le_refl _)⟩
 ·obtain ⟨R, hR⟩ : ∃ R, R = argsT e ts := ⟨_, rfl⟩
  rw [<- hR]
  have hR' : R = argsF e ts [] [] := by rw [hR]; unfold argsT; rw [if_neg (by omega)]
  have hstart : Hid (LASt ts e w R 0 [] [] (.slice none 0 0) (.slice none 0 0) [] w.heap.size w) := ⟨by omega, by simp, by simp, by rw [List.drop_zero]; exact hR', World.ownsRow_nil _ _ _ _, ArgsOwn.start _ _ _ _ _ (Nat.le_refl _), Nat.le_refl _, Below.refl _ _⟩
  rcases hT with hT | ⟨g, o, rfl, hg, hT⟩
  ·rw [hT] at hn0; simp at hn0; omega
  ·have hTH := Hid.intro hT
   have hnH := Hid.intro hn0
   clear hT hR hR' hn0
   obtain ⟨i0, hi, hz0, hz1, hz2⟩ := info_parts Tryz.info64
   obtain ⟨j0, hj, hy0, hy1, hy2⟩ := info_parts Tryz.info55
   have hn1 : ((n0 : Int) == 0) = false := by simp; omega
   go_enter Tryz.func41, Tryz.ntmps41
   go_wp2
   all_goals first | omega | skip
   go_loopw [7, 8, 17] (fun v7 v8 vi wr => ∃ (i : Nat) (arg : List Tok) (acc : List (List Tok)) (vs : List Value) (m : Nat), vi = .int .i64 (i : Int) /\ Hid (LASt ts e w R i arg acc v7 v8 vs m wr)) (fun _ _ vi _ => n0 - (intOf vi).toNat)
   case atStart => exact ⟨0, [], [], [], w.heap.size, rfl, hstart⟩
   case round =>
    clear hstart
    obtain ⟨i, arg, acc, vs, m, rfl, hS⟩ := hrel
    obtain ⟨a1, c1, rfl⟩ := lown_slice hS.out.args.row
    obtain ⟨a2, c2, rfl⟩ := lown_slice hS.out.own
    have hle := hS.out.le
    have hfew := hS.out.few
    have hfewA := hS.out.fewA
    have hvl : vs.length <= i := by have := hS.out.args.len; omega
    rw [<- hnH.out] at hle
    obtain ⟨k7, hk7⟩ : ∃ k7, k7 = vs.length := ⟨_, rfl⟩
    obtain ⟨k8, hk8⟩ : ∃ k8, k8 = arg.length := ⟨_, rfl⟩
    rw [<- hk7, <- hk8] at hS
    rw [<- hk7] at hvl ⊢
    rw [<- hk8] at hfew ⊢
    have hk7H := Hid.intro hk7
    have hk8H := Hid.intro hk8
    clear hk7 hk8
    have hownH : Hid (wr.ownsRow m 64 4 (.slice a2 k8 c2) k8 (rowOf arg)) := by
     have := hS.out.own
     rwa [<- hk8H.out] at this
    have hrowH : Hid (wr.ownsRow w.heap.size 55 1 (.slice a1 k7 c1) k7 vs) := by
     have := hS.out.args.row
     rwa [<- hk7H.out] at this
    have hmle := hS.out.args.le
    have hmlo := hS.out.lo
    by_cases hlt : i < n0
    ·obtain ⟨t, ht⟩ : ∃ t, ts[i]? = some t := ⟨ts[i]'(by rw [<- hnH.out]; exact hlt), List.getElem?_eq_getElem _⟩
     have htH := Hid.intro ht
     clear ht
     have hgr : g < wr.heap.size := Nat.lt_of_lt_of_le hg hS.out.bel.size
     obtain ⟨q0, q1, q2, q3⟩ := (hTH.out i t htH.out).below hS.out.bel hg
     cases h1 : isS t 58
     ·cases h2 : isS t 44
      ·have hc58 := Hid.intro (lineSign_b t 58 false h1)
       have hc44 := Hid.intro (lineSign_b t 44 false h2)
       have hn := Hid.intro (fun (w2 w3 : World) (v2 : Value) (o : Obj) => ast_more hS.out t htH.out h1 h2 w2 w3 v2 o)
       clear h1 h2
       go_wp2_with (first
        | (go_at_call 71; with_reducible refine (hc44.out _).mono ?_; rintro e w1 ⟨rfl, hb1⟩; obtain ⟨b0, b1, b2, b3⟩ := box_below hb1; simp only [Nat.zero_add] at b1 b2 b3)
        | (go_at_call 71; with_reducible refine (hc58.out _).mono ?_; rintro e w2 ⟨rfl, hb2⟩; obtain ⟨d0, d1, d2, d3⟩ := (box_below hb1).below hb2 (lalloc_lt hb1); simp only [Nat.zero_add] at d1 d2 d3)
        | (at_builtin; go_must (refine wpList_append_own_wide _ rfl (.tmp 23) (.tmp 25) 55 rfl m 64 i0 (.agg #[.int .i64 0, .string ⟨#[]⟩, .int .u32 0, .int .i64 0]) 4 40 Tryz.underlying55 hi hz0 hz1 hz2 rfl (by decide) (.slice a2 k8 c2) k8 (rowOf arg) rfl ((ownsRow_below hownH.out (ltwo_below hb1 hb2)).alloc _) ⟨w2.heap.size, 0, none⟩ 1 1 [.int .i64 t.kind, .string (str t.text), .int .u32 t.num, .int .i64 (t.place : Int)] rfl rfl (cells_new _ _ _) (by simp [Value.oneCell']) (by unfold maxLen; omega) (by omega) (by have := (ltwo_below hb1 hb2).size; simp; omega) ?_; intro v2 w3 hown3 hgrow3 _)))
       all_goals first | omega | skip
       go_roundw
       case rel => exact ⟨i + 1, arg ++ [t], acc, vs, m, by go_num, hn.out w2 w3 v2 _ (ltwo_below hb1 hb2) hgrow3 (by rw [<- hk8H.out]; exact hown3)⟩
       case measure => simp [intOf]; omega
      ·have hc58 := Hid.intro (lineSign_b t 58 false h1)
       have hc44 := Hid.intro (lineSign_b t 44 true h2)
       by_cases h0 : k8 = 0
       ·have hR : Hid (R = .error t.place) := by
         show R = _
         rw [hS.out.eq, ldrop_at ts i t htH.out, argsF_empty _ _ _ _ _ h1 h2 (by rw [<- hk8H.out]; exact h0)]
        have hz : ((k8 : Int) == 0) = true := by simp [h0]
        clear h1 h2 h0
        go_wp2_with (first
         | (go_at_call 71; with_reducible refine (hc44.out _).mono ?_; rintro e w1 ⟨rfl, hb1⟩; obtain ⟨b0, b1, b2, b3⟩ := box_below hb1; simp only [Nat.zero_add] at b1 b2 b3)
         | (go_at_call 71; with_reducible refine (hc58.out _).mono ?_; rintro e w2 ⟨rfl, hb2⟩; obtain ⟨d0, d1, d2, d3⟩ := (box_below hb1).below hb2 (lalloc_lt hb1); simp only [Nat.zero_add] at d1 d2 d3))
        all_goals first | omega | skip
        go_quiet (fail)
        go_wp2
        all_goals first | omega | skip
        go_ret3
        rw [hR.out]
        exact ⟨below_drewN (hS.out.bel.trans ((ltwo_below hb1 hb2).mono hS.out.bel.size)) nq, rfl⟩
       ·have hn := Hid.intro (fun (w2 w3 : World) (v2 : Value) (o : Obj) => ast_comma hS.out t htH.out h1 h2 (by rw [<- hk8H.out]; exact h0) w2 w3 v2 o)
        have hz : ((k8 : Int) == 0) = false := by simp [h0]
        clear h1 h2 h0
        go_wp2_with (first
         | (go_at_call 71; with_reducible refine (hc44.out _).mono ?_; rintro e w1 ⟨rfl, hb1⟩; obtain ⟨b0, b1, b2, b3⟩ := box_below hb1; simp only [Nat.zero_add] at b1 b2 b3)
         | (go_at_call 71; with_reducible refine (hc58.out _).mono ?_; rintro e w2 ⟨rfl, hb2⟩; obtain ⟨d0, d1, d2, d3⟩ := (box_below hb1).below hb2 (lalloc_lt hb1); simp only [Nat.zero_add] at d1 d2 d3)
         | (at_builtin; go_must (refine wpList_append_own _ rfl (.tmp 40) (.tmp 42) 47 rfl w.heap.size 55 j0 (.slice none 0 0) 1 24 Tryz.underlying47 hj hy0 hy1 hy2 rfl (by decide) (.slice a1 k7 c1) k7 vs rfl ((ownsRow_below hrowH.out (ltwo_below hb1 hb2)).alloc _) ⟨w2.heap.size, 0, none⟩ 1 1 [.slice a2 k8 c2] rfl rfl (cells_new _ _ _) (by simp [Value.oneCell']) (by unfold maxLen; omega) (by omega) (by have := (ltwo_below hb1 hb2).size; simp; omega) ?_; intro v2 w3 hown3 hgrow3 _)))
        all_goals first | omega | skip
        go_roundw
        case rel => exact ⟨i + 1, [], acc ++ [arg], vs ++ [.slice a2 k8 c2], w3.heap.size, by go_num, Hid.intro (hn.out w2 w3 v2 _ (ltwo_below hb1 hb2) hgrow3 (by rw [<- hk7H.out]; exact hown3))⟩
        case measure => simp [intOf]; omega
     ·have hc58 := Hid.intro (lineSign_b t 58 true h1)
      have hc44 := Hid.intro (fun w => lineSign_b t 44 _ rfl w)
      have hR : Hid (R = .error t.place) := by
       show R = _
       rw [hS.out.eq, ldrop_at ts i t htH.out, argsF_sign _ _ _ _ _ h1]
      clear h1
      obtain ⟨bc, hbc⟩ : ∃ bc, bc = isS t 44 := ⟨_, rfl⟩
      rw [<- hbc] at hc44
      clear hbc
      go_wp2_with (first
       | (go_at_call 71; with_reducible refine (hc44.out _).mono ?_; rintro e w1 ⟨rfl, hb1⟩; obtain ⟨b0, b1, b2, b3⟩ := box_below hb1; simp only [Nat.zero_add] at b1 b2 b3)
       | (go_at_call 71; with_reducible refine (hc58.out _).mono ?_; rintro e w2 ⟨rfl, hb2⟩; obtain ⟨d0, d1, d2, d3⟩ := (box_below hb1).below hb2 (lalloc_lt hb1); simp only [Nat.zero_add] at d1 d2 d3))
      all_goals first | omega | skip
      go_quiet (fail)
      go_wp2
      all_goals first | omega | skip
      go_ret3
      rw [hR.out]
      exact ⟨below_drewN (hS.out.bel.trans ((ltwo_below hb1 hb2).mono hS.out.bel.size)) nq, rfl⟩
    ·have hin : Hid (i = ts.length) := by
      show i = _
      rw [<- hnH.out]
      omega
     by_cases h0 : k8 = 0
     ·have hR : Hid (R = .error e) := by
       show R = _
       rw [hS.out.eq, hin.out, List.drop_length, argsF, if_pos (by rw [<- hk8H.out]; exact h0)]
      have hz : ((k8 : Int) == 0) = true := by simp [h0]
      clear h0
      go_wp2
      all_goals first | omega | skip
      go_ret3
      rw [hR.out]
      exact ⟨hS.out.bel, rfl⟩
     ·have hS' : Hid (LASt ts e w R ts.length arg acc (.slice a1 k7 c1) (.slice a2 k8 c2) vs m wr) := by
       have := hS.out
       rwa [hin.out] at this
      have hn := Hid.intro (fun (w3 : World) (v2 : Value) (o : Obj) => ast_end hS'.out (by rw [<- hk8H.out]; exact h0) w3 v2 o)
      have hz : ((k8 : Int) == 0) = false := by simp [h0]
      clear h0
      go_wp2_with (at_builtin; go_must (refine wpList_append_own _ rfl (.tmp 49) (.tmp 51) 47 rfl w.heap.size 55 j0 (.slice none 0 0) 1 24 Tryz.underlying47 hj hy0 hy1 hy2 rfl (by decide) (.slice a1 k7 c1) k7 vs rfl (hrowH.out.alloc _) ⟨wr.heap.size, 0, none⟩ 1 1 [.slice a2 k8 c2] rfl rfl (cells_new _ _ _) (by simp [Value.oneCell']) (by unfold maxLen; omega) (by omega) (by simp; omega) ?_; intro v2 w3 hown3 hgrow3 _))
      all_goals first | omega | skip
      go_ret3
      exact hn.out w3 v2 _ hgrow3 (by rw [<- hk7H.out]; exact hown3)
end Go.Proofs.YtlkmegchaeokgaaGreatDoor
/- line.Parse. -/
namespace Go.Proofs.YtlkmegchaeokgaaGreatDoor
open Go.ChangeShapes Go.WideShapes Go.ChangeAt Go.RowKit
set_option linter.unusedVariables false
set_option maxRecDepth 100000
abbrev lineZ : Value := .agg #[.string ⟨#[]⟩, .string ⟨#[]⟩, .slice none 0 0]
def POut (B : Nat) (w0 : World) (R : Except Nat Ln) (e : Ending) (w' : World) : Prop := Below B w0 w' /\
 match R with
 | .ok L => ∃ va vs m, e = .returned (.tuple #[.agg #[.string (str L.label), .string (str L.op), va], .int .i64 0, .int .i64 0]) /\ ArgsOwn 55 64 B w' va L.args vs m
 | .error p => e = .returned (.tuple #[lineZ, .int .i64 (p : Int), .int .i64 20])
structure LineCells (w : World) (g : Nat) (T : TypeId) : Prop where
 heap : w.heap[g]? = some (.cells #[.string ⟨#[]⟩, .string ⟨#[]⟩, .slice none 0 0] T (0, 0))
 c0 : w.cell? ⟨g, 0, none⟩ = some (.string ⟨#[]⟩)
 c1 : w.cell? ⟨g, 1, none⟩ = some (.string ⟨#[]⟩)
 c2 : w.cell? ⟨g, 2, none⟩ = some (.slice none 0 0)
 f0 : w.frozen? ⟨g, 0, none⟩ = false
 f1 : w.frozen? ⟨g, 1, none⟩ = false
 f2 : w.frozen? ⟨g, 2, none⟩ = false
theorem lineCells_of {w : World} {g : Nat} {T : TypeId} (h : w.heap[g]? = some (.cells #[.string ⟨#[]⟩, .string ⟨#[]⟩, .slice none 0 0] T (0, 0))) : LineCells w g T :=
 ⟨h, by rw [cell_of_row w g 0 _ T (0, 0) h]; rfl, by rw [cell_of_row w g 1 _ T (0, 0) h]; rfl, by rw [cell_of_row w g 2 _ T (0, 0) h]; rfl, frozen_of_row w g 0 _ T h, frozen_of_row w g 1 _ T h, frozen_of_row w g 2 _ T h⟩
theorem lineCells_below {w w1 : World} {T : TypeId} (hb : Below (w.alloc (.cells #[.string ⟨#[]⟩, .string ⟨#[]⟩, .slice none 0 0] T)).heap.size (w.alloc (.cells #[.string ⟨#[]⟩, .string ⟨#[]⟩, .slice none 0 0] T)) w1) : LineCells w1 w.heap.size T :=
 lineCells_of (by rw [hb.block w.heap.size (by simp)]; exact heap_alloc_new w _)
theorem LineCells.below {w w1 : World} {g B : Nat} {T : TypeId} (h : LineCells w g T) (hb : Below B w w1) (hg : g < B) : LineCells w1 g T := lineCells_of (by rw [hb.block g hg]; exact h.heap)
theorem line_set {w : World} {g : Nat} {T : TypeId} {cur : Array Value} (h : w.heap[g]? = some (.cells cur T (0, 0))) (hc : cur.size = 3) (x y z : Value) :
  (((w.setCell ⟨g, 0, none⟩ x).setCell ⟨g, 1, none⟩ y).setCell ⟨g, 2, none⟩ z).heap[g]? = some (.cells #[x, y, z] T (0, 0)) /\ Below g w (((w.setCell ⟨g, 0, none⟩ x).setCell ⟨g, 1, none⟩ y).setCell ⟨g, 2, none⟩ z) /\
  w.grownBy (((w.setCell ⟨g, 0, none⟩ x).setCell ⟨g, 1, none⟩ y).setCell ⟨g, 2, none⟩ z) (some g) := by
 have h1 := heap_setCell_same w g 0 cur T x h
 have h2 := heap_setCell_same _ g 1 _ T y h1
 have h3 := heap_setCell_same _ g 2 _ T z h2
 refine ⟨?_, ?_, ?_⟩
 ·rw [h3]
  obtain ⟨l⟩ := cur
  match l, hc with
  | [a, b, c], _ => rfl
 ·exact (((Below.refl g w).setCell (p := ⟨g, 0, none⟩) (Nat.le_refl _) x).setCell (p := ⟨g, 1, none⟩) (Nat.le_refl _) y).setCell (p := ⟨g, 2, none⟩) (Nat.le_refl _) z
 ·refine ⟨rfl, rfl, rfl, by simp, fun k hk hne => ?_⟩
  have hk' : k ≠ g := fun e => hne (by rw [e])
  rw [heap_setCell_other _ _ _ _ hk', heap_setCell_other _ _ _ _ hk', heap_setCell_other _ _ _ _ hk']
theorem line_read {w : World} {g : Nat} {T : TypeId} {x y z : Value} (h : w.heap[g]? = some (.cells #[x, y, z] T (0, 0))) : w.cell? ⟨g, 0, none⟩ = some x /\ w.cell? ⟨g, 1, none⟩ = some y /\ w.cell? ⟨g, 2, none⟩ = some z :=
 ⟨by rw [cell_of_row w g 0 _ T (0, 0) h]; rfl, by rw [cell_of_row w g 1 _ T (0, 0) h]; rfl, by rw [cell_of_row w g 2 _ T (0, 0) h]; rfl⟩
theorem parse_bad (s : ByteArray) (hs : s.size <= 1100000) (p : Nat) (h : scan (bs s) 0 = .error p) (w : World) :
  Calls Tryz.prog 16 #[.string s] w fun e w' => Below w.heap.size w w' /\ e = .returned (.tuple #[lineZ, .int .i64 (p : Int), .int .i64 20]) := by
 have hT := Hid.intro (fun w => tokens_bad s hs p h w)
 clear h
 go_enter Tryz.func16, Tryz.ntmps16
 go_wp2_with (go_at_call 39; with_reducible refine (hT.out _).mono ?_; rintro e w1 ⟨hb1, rfl⟩; obtain ⟨hh, r0, r1, r2, f0, f1, f2⟩ := lineCells_below hb1; replace hh := Hid.intro hh)
 obtain ⟨s1, s2, s3⟩ := line_set hh.out rfl (.string ⟨#[]⟩) (.string ⟨#[]⟩) (.slice none 0 0)
 generalize (((w1.setCell ⟨w.heap.size, 0, none⟩ (.string ⟨#[]⟩)).setCell ⟨w.heap.size, 1, none⟩ (.string ⟨#[]⟩)).setCell ⟨w.heap.size, 2, none⟩ (.slice none 0 0)) = w2 at s1 s2 s3 ⊢
 obtain ⟨z0, z1, z2⟩ := line_read s1
 refine bodyPost_ret (by simp [results, Tryz.results16, go_sem, z0, z1, z2]; try rfl) rfl ?_
 exact ⟨(lone_below hb1).trans s2, rfl⟩
theorem lown_weaken {w : World} {lo B : Nat} {T : TypeId} {sz : Nat} {v : Value} {n : Nat} {xs : List Value} (h : w.ownsRow lo T sz v n xs) (hB : B <= lo) : w.ownsRow B T sz v n xs := by
 refine ⟨h.1, ?_⟩
 rcases h.2 with hx | ⟨g, cap, cur, k1, k2, k3⟩
 ·exact .inl hx
 ·exact .inr ⟨g, cap, cur, k1, by omega, k3⟩
theorem ArgsOwn.weaken {T E : TypeId} {lo B : Nat} {w : World} {va : Value} {acc : List (List Tok)} {vs : List Value} {m : Nat} (h : ArgsOwn T E lo w va acc vs m) (hB : B <= lo) : ArgsOwn T E B w va acc vs m :=
 ⟨h.len, lown_weaken h.row hB, fun i v xs hv hx => ⟨(h.each i v xs hv hx).1, lown_weaken (h.each i v xs hv hx).2 hB⟩, h.low, h.rise, h.le⟩
theorem lown_low {w w' : World} {lo k : Nat} {T : TypeId} {sz : Nat} {v : Value} {n : Nat} {xs : List Value} (h : w.ownsRow lo T sz v n xs) (hg : w.grownBy w' (some k)) (hk : k < lo) : w'.ownsRow lo T sz v n xs :=
 h.kept hg (by
  cases hb : v.ownBlock with
  | none => exact .inl rfl
  | some g =>
   refine .inr fun e => ?_
   have := (h.lt g hb).1
   injection e with e
   omega)
theorem ArgsOwn.lower {T E : TypeId} {lo k : Nat} {w w' : World} {va : Value} {acc : List (List Tok)} {vs : List Value} {m : Nat} (h : ArgsOwn T E lo w va acc vs m) (hg : w.grownBy w' (some k)) (hk : k < lo) : ArgsOwn T E lo w' va acc vs m :=
 ⟨h.len, lown_low h.row hg hk, fun i v xs hv hx => ⟨(h.each i v xs hv hx).1, lown_low (h.each i v xs hv hx).2 hg hk⟩, h.low, h.rise, Nat.le_trans h.le hg.size⟩
theorem tokFrom_nil {w : World} {a : Option Addr} {r : List Tok} (h : r.length = 0) : TokFrom w a r := .inl (List.eq_nil_of_length_eq_zero h)
set_option maxHeartbeats 2000000 in
theorem parse_ok (s : ByteArray) (hs : s.size <= 1100000) (ts : List Tok) (h : scan (bs s) 0 = .ok ts) (w : World) :
  Calls Tryz.prog 16 #[.string s] w fun e w' => POut w.heap.size w (parseT s.size ts) e w' := by
 have hT := Hid.intro (fun w => tokens_ok s hs ts h w)
 have hlen : ts.length <= 1100000 := by
  have := scan_len _ _ _ h
  rw [bs_length] at this
  omega
 have hC := Hid.intro (fun (v : Value) (B : Nat) (w : World) => cutLabel_any v ts B w hlen)
 clear h
 unfold parseT
 have hlen2 : (cutT ts).2.length <= ts.length := by
  match ts with
  | [] => simp [cutT]
  | [t] => simp [cutT]
  | t :: u :: r =>
   simp only [cutT]
   split
   ·simp; omega
   ·simp
 generalize (cutT ts).1 = lab at hC ⊢
 generalize (cutT ts).2 = rest at hC hlen2 ⊢
 cases rest with
 | nil =>
  simp only [lineT]
  simp only [List.length_nil] at hC
  go_enter Tryz.func16, Tryz.ntmps16
  go_wp2_with (first
   | (go_at_call 39; with_reducible refine (hT.out _).mono ?_; rintro e w1 ⟨hb1, v1, rfl, hown1⟩; have hown1 := Hid.intro hown1)
   | (go_at_call 40; with_reducible refine (hC.out _ _ _ hown1.out).mono ?_; rintro e w2 ⟨hb2, a2, c2, rfl, hle2, hcc2, hT2, hlo2⟩; obtain ⟨hh, r0, r1, r2, f0, f1, f2⟩ := (lineCells_below hb1).below hb2 (lalloc_lt hb1); replace hh := Hid.intro hh))
  obtain ⟨s1, s2, s3⟩ := line_set hh.out rfl (.string (str lab)) (.string ⟨#[]⟩) (.slice none 0 0)
  generalize (((w2.setCell ⟨w.heap.size, 0, none⟩ (.string (str lab))).setCell ⟨w.heap.size, 1, none⟩ (.string ⟨#[]⟩)).setCell ⟨w.heap.size, 2, none⟩ (.slice none 0 0)) = w3 at s1 s2 s3 ⊢
  obtain ⟨z0, z1, z2⟩ := line_read s1
  refine bodyPost_ret (by simp [results, Tryz.results16, go_sem, z0, z1, z2]; try rfl) rfl ?_
  exact ⟨(ltwo_below hb1 hb2).trans s2, _, [], w3.heap.size, rfl, ArgsOwn.start _ _ _ _ _ (Nat.le_refl _)⟩
 | cons t r =>
  have hrl : (t :: r).length = r.length + 1 := rfl
  rw [hrl] at hC hlen2
  by_cases hk : t.kind = 1
  ·simp only [lineT]
   rw [if_pos hk]
   have hA := Hid.intro (fun (a : Option Addr) (c : Nat) (w : World) => arguments_any a c r s.size w (by omega) hs)
   have hk' : (t.kind != 1) = false := by simp [hk]
   clear hk
   generalize argsT s.size r = RA at hA ⊢
   have hz : ((r.length : Int) + 1 == 0) = false := by simp; omega
   cases RA with
   | error p =>
    simp only
    go_enter Tryz.func16, Tryz.ntmps16
    go_wp2_with (first
     | (go_at_call 39; with_reducible refine (hT.out _).mono ?_; rintro e w1 ⟨hb1, v1, rfl, hown1⟩; have hown1 := Hid.intro hown1)
     | (go_at_call 40; with_reducible refine (hC.out _ _ _ hown1.out).mono ?_; rintro e w2 ⟨hb2, a2, c2, rfl, hle2, hcc2, hT2, hlo2⟩; have hl1 := Hid.intro ((lineCells_below hb1).below hb2 (lalloc_lt hb1)); obtain ⟨g, o, rfl, hg, ⟨q0, q1, q2, q3⟩, hT3⟩ := hT2.head; clear hT2; have hTF := Hid.intro (tokFrom_tail hg hT3); have hTF0 := Hid.intro (fun h1 : c2 = 1 => tokFrom_nil (w := w2) (a := some ⟨g, o, none⟩) (r := r) (by omega)); clear hT3 hlo2)
     | (go_at_call 41; (with_reducible refine (hA.out _ _ _ (by first | exact hTF.out | exact hTF0.out (by assumption))).mono ?_); rintro e w3 ⟨hb3, rfl⟩; obtain ⟨hh, r0, r1, r2, f0, f1, f2⟩ := hl1.out.below hb3 (Nat.lt_of_lt_of_le (lalloc_lt hb1) hb2.size); replace hh := Hid.intro hh))
    all_goals first | omega | skip
    all_goals (
     obtain ⟨s1, s2, s3⟩ := line_set hh.out rfl (.string ⟨#[]⟩) (.string ⟨#[]⟩) (.slice none 0 0)
     generalize (((w3.setCell ⟨w.heap.size, 0, none⟩ (.string ⟨#[]⟩)).setCell ⟨w.heap.size, 1, none⟩ (.string ⟨#[]⟩)).setCell ⟨w.heap.size, 2, none⟩ (.slice none 0 0)) = w4 at s1 s2 s3 ⊢
     obtain ⟨z0, z1, z2⟩ := line_read s1
     refine bodyPost_ret (by simp [results, Tryz.results16, go_sem, z0, z1, z2]; try rfl) rfl ?_
     exact ⟨((ltwo_below hb1 hb2).trans (hb3.mono (ltwo_below hb1 hb2).size)).trans s2, rfl⟩)
   | ok acc =>
    simp only
    go_enter Tryz.func16, Tryz.ntmps16
    go_wp2_with (first
     | (go_at_call 39; with_reducible refine (hT.out _).mono ?_; rintro e w1 ⟨hb1, v1, rfl, hown1⟩; have hown1 := Hid.intro hown1)
     | (go_at_call 40; with_reducible refine (hC.out _ _ _ hown1.out).mono ?_; rintro e w2 ⟨hb2, a2, c2, rfl, hle2, hcc2, hT2, hlo2⟩; have hl1 := Hid.intro ((lineCells_below hb1).below hb2 (lalloc_lt hb1)); obtain ⟨g, o, rfl, hg, ⟨q0, q1, q2, q3⟩, hT3⟩ := hT2.head; clear hT2; have hTF := Hid.intro (tokFrom_tail hg hT3); have hTF0 := Hid.intro (fun h1 : c2 = 1 => tokFrom_nil (w := w2) (a := some ⟨g, o, none⟩) (r := r) (by omega)); clear hT3 hlo2)
     | (go_at_call 41; (with_reducible refine (hA.out _ _ _ (by first | exact hTF.out | exact hTF0.out (by assumption))).mono ?_); rintro e w3 ⟨hb3, va, vs, m, rfl, hAO⟩; obtain ⟨av, cv, rfl⟩ := lown_slice hAO.row; replace hAO := Hid.intro hAO; obtain ⟨q0, q1, q2, q3⟩ := (TokOff.mk q0 q1 q2 q3).below hb3 hg; obtain ⟨hh, r0, r1, r2, f0, f1, f2⟩ := hl1.out.below hb3 (Nat.lt_of_lt_of_le (lalloc_lt hb1) hb2.size); replace hh := Hid.intro hh))
    all_goals first | omega | skip
    all_goals (
     obtain ⟨s1, s2, s3⟩ := line_set hh.out rfl (.string (str lab)) (.string (str t.text)) (.slice av vs.length cv)
     generalize (((w3.setCell ⟨w.heap.size, 0, none⟩ (.string (str lab))).setCell ⟨w.heap.size, 1, none⟩ (.string (str t.text))).setCell ⟨w.heap.size, 2, none⟩ (.slice av vs.length cv)) = w4 at s1 s2 s3 ⊢
     obtain ⟨z0, z1, z2⟩ := line_read s1
     refine bodyPost_ret (by simp [results, Tryz.results16, go_sem, z0, z1, z2]; try rfl) rfl ?_
     exact ⟨((ltwo_below hb1 hb2).trans (hb3.mono (ltwo_below hb1 hb2).size)).trans s2, _, vs, m, rfl, (hAO.out.lower s3 (Nat.lt_of_lt_of_le (lalloc_lt hb1) hb2.size)).weaken (ltwo_below hb1 hb2).size⟩)
  ·simp only [lineT]
   rw [if_neg hk]
   have hk' : (t.kind != 1) = true := by simp [hk]
   clear hk
   have hz : ((r.length : Int) + 1 == 0) = false := by simp; omega
   go_enter Tryz.func16, Tryz.ntmps16
   go_wp2_with (first
    | (go_at_call 39; with_reducible refine (hT.out _).mono ?_; rintro e w1 ⟨hb1, v1, rfl, hown1⟩; have hown1 := Hid.intro hown1)
    | (go_at_call 40; with_reducible refine (hC.out _ _ _ hown1.out).mono ?_; rintro e w2 ⟨hb2, a2, c2, rfl, hle2, hcc2, hT2, hlo2⟩; obtain ⟨hh, r0, r1, r2, f0, f1, f2⟩ := (lineCells_below hb1).below hb2 (lalloc_lt hb1); replace hh := Hid.intro hh; obtain ⟨g, o, rfl, hg, ⟨q0, q1, q2, q3⟩, hT3⟩ := hT2.head; replace hT3 := Hid.intro hT3; clear hT2; have hgne : w.heap.size < g := (by have := hlo2 _ rfl; simp at this; omega); clear hlo2))
   all_goals first | omega | skip
   have hne : ¬ g = w.heap.size := by omega
   have hne2 : ¬ w.heap.size = g := by omega
   go_region
   go_wp2
   obtain ⟨s1, s2, s3⟩ := line_set hh.out rfl (.string ⟨#[]⟩) (.string ⟨#[]⟩) (.slice none 0 0)
   generalize (((w2.setCell ⟨w.heap.size, 0, none⟩ (.string ⟨#[]⟩)).setCell ⟨w.heap.size, 1, none⟩ (.string ⟨#[]⟩)).setCell ⟨w.heap.size, 2, none⟩ (.slice none 0 0)) = w3 at s1 s2 s3 ⊢
   have s1' : w3.drew.heap[w.heap.size]? = some (.cells #[.string ⟨#[]⟩, .string ⟨#[]⟩, .slice none 0 0] 49 (0, 0)) := s1
   obtain ⟨z0, z1, z2⟩ := line_read s1'
   refine bodyPost_ret (by simp [results, Tryz.results16, go_sem, z0, z1, z2]; try rfl) rfl ?_
   exact ⟨((ltwo_below hb1 hb2).trans s2).drew, rfl⟩
theorem lineParse_any (s : ByteArray) (hs : s.size <= 1100000) (w : World) :
  Calls Tryz.prog 16 #[.string s] w fun e w' => POut w.heap.size w (parseL (bs s)) e w' := by
 unfold parseL
 cases h : scan (bs s) 0 with
 | error p => exact parse_bad s hs p h w
 | ok ts =>
  simp only
  rw [bs_length]
  exact parse_ok s hs ts h w
end Go.Proofs.YtlkmegchaeokgaaGreatDoor
/- Chapter 3's known runs. -/
namespace Go.Proofs.YtlkmegchaeokgaaGreatDoor
open Go.ChangeShapes Go.WideShapes Go.ChangeAt Go.RowKit
set_option linter.unusedVariables false
set_option maxRecDepth 100000
theorem parse_line (s : ByteArray) (hs : s.size <= 1100000) (L : Ln) (h : parseL (bs s) = .ok L) (w : World) :
  Calls Tryz.prog 16 #[.string s] w fun e w' => Below w.heap.size w w' /\ ∃ a c vs m, e = .returned (.tuple #[.agg #[.string (str L.label), .string (str L.op), .slice a L.args.length c], .int .i64 0, .int .i64 0]) /\ ArgsOwn 55 64 w.heap.size w' (.slice a L.args.length c) L.args vs m := by
 have := lineParse_any s hs w
 rw [h] at this
 refine this.mono ?_
 rintro e w' ⟨hb, va, vs, m, rfl, hA⟩
 obtain ⟨a, c, rfl⟩ := lown_slice hA.row
 rw [hA.len] at hA ⊢
 exact ⟨hb, a, c, vs, m, rfl, hA⟩
theorem cellA {w : World} {a : Addr} {v : Value} (h : w.cell? a = some v) (o : Obj) : (w.alloc o).cell? a = some v := (World.grownBy_alloc w o none).cell h (by simp)
end Go.Proofs.YtlkmegchaeokgaaGreatDoor
namespace Go.Proofs.YtlkmegchaeokgaaGreatDoor
open Go.ChangeShapes Go.WideShapes Go.ChangeAt Go.RowKit
set_option linter.unusedVariables false
set_option maxRecDepth 100000
def ArgsLie (w : World) (a : Option Addr) (acc : List (List Tok)) : Prop := acc = [] ∨ ∃ G, a = some ⟨G, 0, none⟩ /\ G < w.heap.size /\ ∀ (i : Nat) (xs : List Tok), acc[i]? = some xs -> ∃ a' c', w.cell? ⟨G, i, none⟩ = some (.slice a' xs.length c') /\ TokLies w a' xs /\ xs.length <= c'
theorem ArgsLie.below {w w' : World} {a : Option Addr} {acc : List (List Tok)} (h : ArgsLie w a acc) (hb : Below w.heap.size w w') : ArgsLie w' a acc := by
 rcases h with h | ⟨G, ha, hG, h⟩
 ·exact .inl h
 ·refine .inr ⟨G, ha, Nat.lt_of_lt_of_le hG hb.size, fun i xs hi => ?_⟩
  obtain ⟨a', c', h1, h2, h3⟩ := h i xs hi
  exact ⟨a', c', by rw [hb.cell (p := ⟨G, i, none⟩) hG]; exact h1, h2.below hb (Nat.le_refl _), h3⟩
theorem ArgsOwn.lies {T E : TypeId} {lo : Nat} {w : World} {a : Option Addr} {n c : Nat} {acc : List (List Tok)} {vs : List Value} {m : Nat} (h : ArgsOwn T E lo w (.slice a n c) acc vs m) : ArgsLie w a acc := by
 cases acc with
 | nil => exact .inl rfl
 | cons x acc =>
  have hl := h.len
  have hrow := h.row
  obtain ⟨hl', ⟨hv, h0⟩ | ⟨g, cap, cur, hv, hbg, hg, hle, hcap, hsz, htk⟩⟩ := h.row
  ·rw [hl] at h0; simp at h0
  ·injection hv with hv1 hv2 hv3
   subst hv1
   refine .inr ⟨g, rfl, (Array.getElem?_eq_some_iff.1 hg).1, fun i xs hi => ?_⟩
   have hi' : i < vs.length := by rw [hl]; exact (List.getElem?_eq_some_iff.1 hi).1
   obtain ⟨v, hv⟩ : ∃ v, vs[i]? = some v := ⟨vs[i], List.getElem?_eq_getElem hi'⟩
   obtain ⟨hx0, ho⟩ := h.each i v xs hv hi
   rw [hv2] at hrow
   have hcell := hrow.cellAt i (by omega)
   rw [hv] at hcell
   obtain ⟨a', c', rfl, hl2⟩ := own_lies ho
   refine ⟨a', c', hcell, hl2, ?_⟩
   rcases ho.2 with ⟨hvv, hh0⟩ | ⟨g', cap', cur', hvv, hB, hgh, hle', hcap', _⟩
   ·injection hvv with _ _ e3; omega
   ·injection hvv with _ _ e3; omega
theorem TokLies.drewN {w : World} {a : Option Addr} {xs : List Tok} (h : TokLies w a xs) (n : Nat) : TokLies (w.drewN n) a xs := h.below (below_drewN (Below.refl _ w) n) (Nat.le_refl _)
end Go.Proofs.YtlkmegchaeokgaaGreatDoor
