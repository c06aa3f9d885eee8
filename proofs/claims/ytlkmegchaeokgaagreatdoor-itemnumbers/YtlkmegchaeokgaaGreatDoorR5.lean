/- The document's Read: its state. -/
import Derived.Test.YtlkmegchaeokgaaGreatDoorRefParse
import Derived.Test.YtlkmegchaeokgaaGreatDoorIt9
import Derived.Test.YtlkmegchaeokgaaGreatDoorIRefF
/- The document's reg, constant. -/
namespace Go.Proofs.YtlkmegchaeokgaaGreatDoor
open Go.ChangeShapes Go.WideShapes Go.ChangeAt Go.RowKit
set_option linter.unusedVariables false
set_option maxRecDepth 100000
def refRegV (r : Option Int) : Value := match r with | some n => .tuple #[.int .i64 n, .int .i64 0] | none => .tuple #[.int .i64 0, .int .i64 20]
theorem regF_nil (arg : List Tok) (z : Bool) (h : wordF arg = []) : regF arg z = none := by
 unfold regF
 rw [h, if_neg]
 rintro ⟨h1, _⟩
 have h2 : isR (str []) = false := rfl
 have h3 : isZ (str []) = false := rfl
 rw [h2, h3] at h1
 cases h1
theorem refReg_any (a : Option Addr) (c : Nat) (arg : List Tok) (z : Bool) (w : World) (hT : TLies w a arg) (hs : ∀ t ∈ arg, t.text.length <= 1000000) :
  Calls Tryz.prog 82 #[.slice a arg.length c, .bool z] w fun e w' => e = .returned (refRegV (regF arg z)) /\ w' = w := by
 by_cases h1 : arg.length = 1
 ·match arg, h1, hT, hs with
  | [t], _, hT, hs =>
   rcases hT with h | ⟨g, o, rfl, hl⟩
   ·cases h
   obtain ⟨q0, q1, _, _⟩ := hl 0 t rfl
   simp only [Nat.zero_mul, Nat.add_zero] at q0 q1
   have hts := hs t (by simp)
   by_cases hk : t.kind = 1
   ·rw [hk] at q0
    have hw : wordF [t] = t.text := by simp [wordF, hk]
    have hr := refRegister_any (str t.text) (by rw [str_sizeI]; omega) w
    have hF : regF [t] z = if (isR (str t.text) || isZ (str t.text)) = true /\ isZ (str t.text) = z then some (regN (str t.text)) else none := by unfold regF; rw [hw]
    rw [hF]
    generalize regN (str t.text) = N at hr ⊢
    generalize (isR (str t.text) || isZ (str t.text)) = ok at hr ⊢
    generalize isZ (str t.text) = zz at hr ⊢
    replace hr := Hid.intro hr
    clear hF hw hs hl
    show Calls Tryz.prog 82 #[.slice (some ⟨g, o, none⟩) 1 c, .bool z] w _
    cases ok
    ·rw [if_neg (by simp)]
     go_enter Tryz.func82, Tryz.ntmps82
     go_wp2_with (go_at_call 59; (with_reducible refine (hr.out).mono ?_); rintro e w' ⟨rfl, rfl⟩)
     all_goals first | omega | skip
     go_ret2
     exact ⟨rfl, rfl⟩
    ·cases zz <;> cases z
     all_goals (try rw [if_pos ⟨rfl, rfl⟩])
     all_goals (try rw [if_neg (fun h => nomatch h.2)])
     all_goals
      go_enter Tryz.func82, Tryz.ntmps82
      go_wp2_with (go_at_call 59; (with_reducible refine (hr.out).mono ?_); rintro e w' ⟨rfl, rfl⟩)
      all_goals first | omega | skip
      go_ret2
      exact ⟨rfl, rfl⟩
   ·rw [regF_nil [t] z (by simp [wordF, hk])]
    have hk' : (t.kind == 1) = false := by simp [hk]
    clear hs hl
    show Calls Tryz.prog 82 #[.slice (some ⟨g, o, none⟩) 1 c, .bool z] w _
    go_enter Tryz.func82, Tryz.ntmps82
    go_wp2
    all_goals first | omega | skip
    go_ret2
    exact ⟨rfl, rfl⟩
 ·rw [regF_nil arg z (wordF_other h1)]
  generalize arg.length = n0 at h1 ⊢
  have h1' : ¬ ((n0 : Int) = 1) := by omega
  clear hT hs
  go_enter Tryz.func82, Tryz.ntmps82
  go_wp2
  all_goals first | omega | skip
  go_ret2
  exact ⟨rfl, rfl⟩
def rconF (arg : List Tok) (lo hi : Int) : Except Int Int :=
 match constF arg with
 | .error k => .error k
 | .ok n => if lo <= n /\ n <= hi then .ok n else .error 21
set_option maxHeartbeats 1000000 in
theorem refConst_any (a : Option Addr) (c : Nat) (arg : List Tok) (lo hi : Int) (w : World) (hT : RToks w a arg) :
  Calls Tryz.prog 83 #[.slice a arg.length c, .int .i64 lo, .int .i64 hi] w fun e w' => e = .returned (numV (rconF arg lo hi)) /\ Below w.heap.size w w' := by
 have hp := refParse_any a c arg w hT
 have hF : rconF arg lo hi = match parseF arg with | .error e => .error e | .ok x => if x.terms.length = 0 /\ lo <= i32F x.const /\ i32F x.const <= hi then .ok (i32F x.const) else .error 21 := by
  unfold rconF constF
  cases parseF arg with
  | error e => rfl
  | ok x =>
   simp only
   by_cases h0 : x.terms.length = 0
   ·rw [if_pos h0]
    simp only
    by_cases h1 : lo <= i32F x.const /\ i32F x.const <= hi
    ·rw [if_pos h1, if_pos ⟨h0, h1⟩]
    ·rw [if_neg h1, if_neg (fun h => h1 h.2)]
   ·rw [if_neg h0, if_neg (fun h => h0 h.1)]
 rw [hF]
 clear hF
 unfold ParseOut at hp
 have hg := @parseF_good arg
 have he := @parseF_err arg
 generalize parseF arg = R at hp hg he ⊢
 have hfew := hT.few
 clear hT
 generalize arg.length = n0 at hp hg hfew ⊢
 cases R with
 | error k =>
  have hk0 : (k == 0) = false := by rcases he rfl with rfl | rfl <;> rfl
  clear hg he
  have hpH := Hid.intro hp
  clear hp
  go_enter Tryz.func83, Tryz.ntmps83
  go_wp2_with (go_at_call 84; (with_reducible refine (hpH.out).mono ?_); rintro e w1 ⟨hb1, rfl⟩)
  all_goals first | omega | skip
  go_ret2
  exact ⟨rfl, hb1.alloc (hb1.size) _⟩
 | ok x =>
  have hx := hg rfl
  have h1 := hx.1.lo
  have h2 := hx.1.hi
  have hpH := Hid.intro hp
  have hw32 := i32_wrap x.const h1 h2
  have hi32 : -2147483648 <= i32F x.const /\ i32F x.const <= 2147483647 := by unfold i32F; split <;> omega
  have hw64 : IntKind.i64.wrap (i32F x.const) = i32F x.const := by rw [IntKind.wrap_i64]; omega
  clear hp hg he
  simp only
  generalize i32F x.const = I at hw32 hi32 hw64 ⊢
  by_cases h0 : x.terms.length = 0
  ·by_cases hl : lo <= I
   ·by_cases hh : I <= hi
    ·rw [if_pos ⟨h0, hl, hh⟩]
     go_enter Tryz.func83, Tryz.ntmps83
     go_wp2_with (go_at_call 84; (with_reducible refine (hpH.out).mono ?_); rintro e w1 ⟨hb1, a1, n1, c1, rfl, hown⟩; have hn1 : n1 = 0 := (own_len hown).trans h0; clear hown; subst hn1)
     all_goals first | omega | skip
     go_ret2
     exact ⟨by first | rfl | (rw [show numV (.ok I) = .tuple #[.int .i64 I, .int .i64 0] from rfl]; simp [hw32, hw64]), hb1.alloc (hb1.size) _⟩
    ·rw [if_neg (fun h => hh h.2.2)]
     go_enter Tryz.func83, Tryz.ntmps83
     go_wp2_with (go_at_call 84; (with_reducible refine (hpH.out).mono ?_); rintro e w1 ⟨hb1, a1, n1, c1, rfl, hown⟩; have hn1 : n1 = 0 := (own_len hown).trans h0; clear hown; subst hn1)
     all_goals first | omega | skip
     go_ret2
     exact ⟨rfl, hb1.alloc (hb1.size) _⟩
   ·rw [if_neg (fun h => hl h.2.1)]
    go_enter Tryz.func83, Tryz.ntmps83
    go_wp2_with (go_at_call 84; (with_reducible refine (hpH.out).mono ?_); rintro e w1 ⟨hb1, a1, n1, c1, rfl, hown⟩; have hn1 : n1 = 0 := (own_len hown).trans h0; clear hown; subst hn1)
    all_goals first | omega | skip
    go_ret2
    exact ⟨rfl, hb1.alloc (hb1.size) _⟩
  ·rw [if_neg (fun h => h0 h.1)]
   go_enter Tryz.func83, Tryz.ntmps83
   go_wp2_with (go_at_call 84; (with_reducible refine (hpH.out).mono ?_); rintro e w1 ⟨hb1, a1, n1, c1, rfl, hown⟩; have hn1 := own_len hown; clear hown; have hn2 : 0 < n1 := (by omega); clear hn1)
   all_goals first | omega | skip
   go_ret2
   exact ⟨rfl, hb1.alloc (hb1.size) _⟩
end Go.Proofs.YtlkmegchaeokgaaGreatDoor
/- The document's code, of two registers and of a small constant. -/
namespace Go.Proofs.YtlkmegchaeokgaaGreatDoor
open Go.ChangeShapes Go.WideShapes Go.ChangeAt Go.RowKit
set_option linter.unusedVariables false
set_option maxRecDepth 100000
structure RArgsIn (B : Nat) (w : World) (a : Option Addr) (acc : List (List Tok)) : Prop where
 outer : acc = [] ∨ ∃ G, a = some ⟨G, 0, none⟩ /\ G < B /\ ∀ (i : Nat) (xs : List Tok), acc[i]? = some xs -> ∃ a' c', w.cell? ⟨G, i, none⟩ = some (.slice a' xs.length c') /\ RToks w a' xs /\ (∀ y, a' = some y -> y.block < B) /\ xs.length <= c'
 size : B <= w.heap.size
theorem RToks.low {w w' : World} {a : Option Addr} {ts : List Tok} {B : Nat} (h : RToks w a ts) (hy : ∀ y, a = some y -> y.block < B) (hb : Below B w w') (hB : B <= w.heap.size) : RToks w' a ts := by
 refine ⟨?_, fun x hx => by have := hy x hx; have := hb.size; omega, h.few, h.short, h.nums⟩
 rcases h.lies with h1 | ⟨g, o, ha, hl⟩
 ·exact .inl h1
 ·have hgB := hy _ ha
  refine .inr ⟨g, o, ha, fun i t hi => (hl i t hi).below hb hgB⟩
theorem RArgsIn.below {B : Nat} {w w' : World} {a : Option Addr} {acc : List (List Tok)} (h : RArgsIn B w a acc) (hb : Below B w w') : RArgsIn B w' a acc := by
 refine ⟨?_, Nat.le_trans h.size hb.size⟩
 rcases h.outer with h1 | ⟨G, ha, hG, hl⟩
 ·exact .inl h1
 ·refine .inr ⟨G, ha, hG, fun i xs hi => ?_⟩
  obtain ⟨a', c', k1, k2, k3⟩ := hl i xs hi
  exact ⟨a', c', (hb.cell (p := ⟨G, i, none⟩) hG).trans k1, k2.low k3.1 hb h.size, k3⟩
theorem refArgs_any (s : Int) (h1 : 1 <= s /\ s <= 13) (w : World) :
  Calls Tryz.prog 81 #[.int .i64 s] w fun e w' => e = .returned (.int .i64 (wantsF s).length) /\ w' = w := by
 have : s = 1 ∨ s = 2 ∨ s = 3 ∨ s = 4 ∨ s = 5 ∨ s = 6 ∨ s = 7 ∨ s = 8 ∨ s = 9 ∨ s = 10 ∨ s = 11 ∨ s = 12 ∨ s = 13 := by omega
 rcases this with rfl | rfl | rfl | rfl | rfl | rfl | rfl | rfl | rfl | rfl | rfl | rfl | rfl
 all_goals (go_enter Tryz.func81, Tryz.ntmps81; go_wp2; go_ret; exact ⟨rfl, rfl⟩)
abbrev itmZ : Value := .agg (itmCells itmE (.slice none 0 0))
def CodeOut (w w' : World) (R : Except Int Itm) (e : Ending) : Prop := Below w.heap.size w w' /\
 match R with
 | .error k => e = .returned (.tuple #[itmZ, .int .i64 k])
 | .ok x => ∃ va n vc, e = .returned (.tuple #[.agg (itmCells x (.slice va n vc)), .int .i64 0]) /\ n = x.e.terms.length /\ TmLies w' va x.e.terms
theorem ten_set {w : World} {g : Nat} {c0 c1 c2 c3 c4 c5 c6 c7 c8 c9 : Value} (h : w.heap[g]? = some (.cells #[c0, c1, c2, c3, c4, c5, c6, c7, c8, c9] 33 (0, 0))) (v0 v1 v2 v3 v4 v5 v6 v7 v8 v9 : Value) :
  ((((((((((w.setCell ⟨g, 0, none⟩ v0).setCell ⟨g, 1, none⟩ v1).setCell ⟨g, 2, none⟩ v2).setCell ⟨g, 3, none⟩ v3).setCell ⟨g, 4, none⟩ v4).setCell ⟨g, 5, none⟩ v5).setCell ⟨g, 6, none⟩ v6).setCell ⟨g, 7, none⟩ v7).setCell ⟨g, 8, none⟩ v8).setCell ⟨g, 9, none⟩ v9).heap[g]? = some (.cells #[v0, v1, v2, v3, v4, v5, v6, v7, v8, v9] 33 (0, 0)) /\ w.grownBy ((((((((((w.setCell ⟨g, 0, none⟩ v0).setCell ⟨g, 1, none⟩ v1).setCell ⟨g, 2, none⟩ v2).setCell ⟨g, 3, none⟩ v3).setCell ⟨g, 4, none⟩ v4).setCell ⟨g, 5, none⟩ v5).setCell ⟨g, 6, none⟩ v6).setCell ⟨g, 7, none⟩ v7).setCell ⟨g, 8, none⟩ v8).setCell ⟨g, 9, none⟩ v9) (some g) := by
 obtain ⟨a0, b0⟩ := row_set h 0 v0
 rw [show (#[c0, c1, c2, c3, c4, c5, c6, c7, c8, c9] : Array Value).setIfInBounds 0 v0 = #[v0, c1, c2, c3, c4, c5, c6, c7, c8, c9] from rfl] at a0
 obtain ⟨a1, b1⟩ := row_set a0 1 v1
 rw [show (#[v0, c1, c2, c3, c4, c5, c6, c7, c8, c9] : Array Value).setIfInBounds 1 v1 = #[v0, v1, c2, c3, c4, c5, c6, c7, c8, c9] from rfl] at a1
 obtain ⟨a2, b2⟩ := row_set a1 2 v2
 rw [show (#[v0, v1, c2, c3, c4, c5, c6, c7, c8, c9] : Array Value).setIfInBounds 2 v2 = #[v0, v1, v2, c3, c4, c5, c6, c7, c8, c9] from rfl] at a2
 obtain ⟨a3, b3⟩ := row_set a2 3 v3
 rw [show (#[v0, v1, v2, c3, c4, c5, c6, c7, c8, c9] : Array Value).setIfInBounds 3 v3 = #[v0, v1, v2, v3, c4, c5, c6, c7, c8, c9] from rfl] at a3
 obtain ⟨a4, b4⟩ := row_set a3 4 v4
 rw [show (#[v0, v1, v2, v3, c4, c5, c6, c7, c8, c9] : Array Value).setIfInBounds 4 v4 = #[v0, v1, v2, v3, v4, c5, c6, c7, c8, c9] from rfl] at a4
 obtain ⟨a5, b5⟩ := row_set a4 5 v5
 rw [show (#[v0, v1, v2, v3, v4, c5, c6, c7, c8, c9] : Array Value).setIfInBounds 5 v5 = #[v0, v1, v2, v3, v4, v5, c6, c7, c8, c9] from rfl] at a5
 obtain ⟨a6, b6⟩ := row_set a5 6 v6
 rw [show (#[v0, v1, v2, v3, v4, v5, c6, c7, c8, c9] : Array Value).setIfInBounds 6 v6 = #[v0, v1, v2, v3, v4, v5, v6, c7, c8, c9] from rfl] at a6
 obtain ⟨a7, b7⟩ := row_set a6 7 v7
 rw [show (#[v0, v1, v2, v3, v4, v5, v6, c7, c8, c9] : Array Value).setIfInBounds 7 v7 = #[v0, v1, v2, v3, v4, v5, v6, v7, c8, c9] from rfl] at a7
 obtain ⟨a8, b8⟩ := row_set a7 8 v8
 rw [show (#[v0, v1, v2, v3, v4, v5, v6, v7, c8, c9] : Array Value).setIfInBounds 8 v8 = #[v0, v1, v2, v3, v4, v5, v6, v7, v8, c9] from rfl] at a8
 obtain ⟨a9, b9⟩ := row_set a8 9 v9
 rw [show (#[v0, v1, v2, v3, v4, v5, v6, v7, v8, c9] : Array Value).setIfInBounds 9 v9 = #[v0, v1, v2, v3, v4, v5, v6, v7, v8, v9] from rfl] at a9
 refine ⟨?_, grown_trans (grown_trans (grown_trans (grown_trans (grown_trans (grown_trans (grown_trans (grown_trans (grown_trans b0 b1) b2) b3) b4) b5) b6) b7) b8) b9⟩
 exact a9
structure CSt (w : World) (B : Nat) (a : Option Addr) (args : List (List Tok)) (x : Itm) (p : Nat) (wr : World) : Prop where
 bel : Below w.heap.size w wr
 res : wr.heap[w.heap.size]? = some (.cells (itmCells itmE (.slice none 0 0)) 33 (0, 0))
 row : wr.heap[p]? = some (.cells (itmCells x (.slice none 0 0)) 33 (0, 0))
 lo : w.heap.size < p
 ins : RArgsIn w.heap.size wr a args
theorem cst_new {w w1 : World} {a : Option Addr} {args : List (List Tok)} (hA : RArgsIn w.heap.size w a args) (x : Itm) (hb : Below (w.alloc (.cells (itmCells itmE (.slice none 0 0)) 33)).heap.size (w.alloc (.cells (itmCells itmE (.slice none 0 0)) 33)) w1) : CSt w 0 a args x w1.heap.size (w1.alloc (.cells (itmCells x (.slice none 0 0)) 33)) := by
 have hs := hb.size
 have hs0 : (w.alloc (.cells (itmCells itmE (.slice none 0 0)) 33)).heap.size = w.heap.size + 1 := by simp
 have hB : Below w.heap.size w (w1.alloc (.cells (itmCells x (.slice none 0 0)) 33)) := ((below_alloc w _).trans (hb.mono (by omega))).alloc (by omega) _
 exact ⟨hB, by rw [Below.heap_alloc _ _ _ (by omega), hb.block _ (by omega)]; exact heap_alloc_new w _, heap_alloc_new w1 _, by omega, hA.below hB⟩
theorem CSt.put {w : World} {a : Option Addr} {args : List (List Tok)} {x x' : Itm} {p : Nat} {wr : World} (h : CSt w 0 a args x p wr) (j : Nat) (v : Value) (hj : (itmCells x (.slice none 0 0)).setIfInBounds j v = itmCells x' (.slice none 0 0)) : CSt w 0 a args x' p (wr.setCell ⟨p, j, none⟩ v) := by
 obtain ⟨s1, s2⟩ := row_set h.row j v
 have hB : Below w.heap.size wr (wr.setCell ⟨p, j, none⟩ v) := below_of_grown s2 (Nat.le_of_lt h.lo) h.bel.size
 exact ⟨h.bel.trans hB, by rw [s2.block _ (blk_lt h.res) (by have := h.lo; simp; omega)]; exact h.res, by rw [s1, hj], h.lo, h.ins.below hB⟩
theorem CSt.below {w : World} {a : Option Addr} {args : List (List Tok)} {x : Itm} {p : Nat} {wr w' : World} (h : CSt w 0 a args x p wr) (hb : Below wr.heap.size wr w') : CSt w 0 a args x p w' :=
 ⟨h.bel.trans (hb.mono h.bel.size), by rw [hb.block _ (blk_lt h.res)]; exact h.res, by rw [hb.block _ (blk_lt h.row)]; exact h.row, h.lo, h.ins.below (hb.mono h.bel.size)⟩
end Go.Proofs.YtlkmegchaeokgaaGreatDoor
namespace Go.Proofs.YtlkmegchaeokgaaGreatDoor
open Go.ChangeShapes Go.WideShapes Go.ChangeAt Go.RowKit
set_option linter.unusedVariables false
set_option maxRecDepth 100000
theorem six_setT {T : TypeId} {w : World} {g : Nat} {c0 c1 c2 c3 c4 c5 : Value} (h : w.heap[g]? = some (.cells #[c0, c1, c2, c3, c4, c5] T (0, 0))) (v0 v1 v2 v3 v4 v5 : Value) :
  ((((((w.setCell ⟨g, 0, none⟩ v0).setCell ⟨g, 1, none⟩ v1).setCell ⟨g, 2, none⟩ v2).setCell ⟨g, 3, none⟩ v3).setCell ⟨g, 4, none⟩ v4).setCell ⟨g, 5, none⟩ v5).heap[g]? = some (.cells #[v0, v1, v2, v3, v4, v5] T (0, 0)) /\ w.grownBy ((((((w.setCell ⟨g, 0, none⟩ v0).setCell ⟨g, 1, none⟩ v1).setCell ⟨g, 2, none⟩ v2).setCell ⟨g, 3, none⟩ v3).setCell ⟨g, 4, none⟩ v4).setCell ⟨g, 5, none⟩ v5) (some g) := by
 obtain ⟨a0, b0⟩ := row_set h 0 v0
 obtain ⟨a1, b1⟩ := row_set a0 1 v1
 obtain ⟨a2, b2⟩ := row_set a1 2 v2
 obtain ⟨a3, b3⟩ := row_set a2 3 v3
 obtain ⟨a4, b4⟩ := row_set a3 4 v4
 obtain ⟨a5, b5⟩ := row_set a4 5 v5
 refine ⟨?_, grown_trans (grown_trans (grown_trans (grown_trans (grown_trans b0 b1) b2) b3) b4) b5⟩
 rw [a5]
 rfl
structure RRSt (w : World) (lb s : List UInt8) (a : Option Addr) (n c : Nat) (args : List (List Tok)) (wr : World) : Prop where
 bel : Below w.heap.size w wr
 line : wr.heap[w.heap.size]? = some (.cells #[.string (str lb), .string (str s), .slice a n c] 71 (0, 0))
 res : wr.heap[w.heap.size + 1]? = some (.cells zero6 38 (0, 0))
 ins : RArgsIn w.heap.size wr a args
theorem RRSt.below {w : World} {lb s : List UInt8} {a : Option Addr} {n c : Nat} {args : List (List Tok)} {wr w' : World} (h : RRSt w lb s a n c args wr) (hb : Below wr.heap.size wr w') : RRSt w lb s a n c args w' :=
 ⟨h.bel.trans (hb.mono h.bel.size), by rw [hb.block _ (blk_lt h.line)]; exact h.line, by rw [hb.block _ (blk_lt h.res)]; exact h.res, h.ins.below (hb.mono h.bel.size)⟩
theorem rrst_new {w : World} {a : Option Addr} {args : List (List Tok)} (hA : RArgsIn w.heap.size w a args) (lb s : List UInt8) (n c : Nat) : RRSt w lb s a n c args ((w.alloc (.cells #[.string (str lb), .string (str s), .slice a n c] 71)).alloc (.cells zero6 38)) := by
 have hs : (w.alloc (.cells #[.string (str lb), .string (str s), .slice a n c] 71)).heap.size = w.heap.size + 1 := by simp
 have hB : Below w.heap.size w ((w.alloc (.cells #[.string (str lb), .string (str s), .slice a n c] 71)).alloc (.cells zero6 38)) := (below_alloc w _).alloc (by simp) _
 refine ⟨hB, ?_, ?_, hA.below hB⟩
 ·rw [Below.heap_alloc _ _ _ (by omega)]
  exact heap_alloc_new w _
 ·rw [<- hs]
  exact heap_alloc_new _ _
theorem rargs_mono {B B' : Nat} {w : World} {a : Option Addr} {acc : List (List Tok)} (h : RArgsIn B w a acc) (h1 : B <= B') (h2 : B' <= w.heap.size) : RArgsIn B' w a acc := by
 refine ⟨?_, h2⟩
 rcases h.outer with h3 | ⟨G, ha, hG, hl⟩
 ·exact .inl h3
 ·refine .inr ⟨G, ha, by omega, fun i xs hi => ?_⟩
  obtain ⟨a', c', k1, k2, k3⟩ := hl i xs hi
  exact ⟨a', c', k1, k2, fun y hy => by have := k3.1 y hy; omega, k3.2⟩
end Go.Proofs.YtlkmegchaeokgaaGreatDoor
