/- The document's Read of an operation's line: two registers, or a small constant. -/
import Derived.Test.YtlkmegchaeokgaaGreatDoorRefParse
import Derived.Test.YtlkmegchaeokgaaGreatDoorIt9
import Derived.Test.YtlkmegchaeokgaaGreatDoorIRefF
/- The document's reg, constant. -/
namespace Go.Proofs.YtlkmegchaeokgaaGreatDoor
open Go.ChangeShapes Go.WideShapes Go.ChangeAt Go.RowKit
set_option linter.unusedVariables false
set_option maxRecDepth 100000

def refRegV (r : Option Int) : Value := match r with | some n => .tuple #[.int .i64 n, .int .i64 0] | none => .tuple #[.int .i64 0, .int .i64 20]

theorem regF_nil (arg : List Tok) (z : Bool) (h : wordF arg = []) : regF arg z = none := by
  unfold regF
  rw [h, if_neg]
  rintro ⟨h1, _⟩
  have h2 : isR (str []) = false := rfl
  have h3 : isZ (str []) = false := rfl
  rw [h2, h3] at h1
  cases h1

theorem refReg_any (a : Option Addr) (c : Nat) (arg : List Tok) (z : Bool) (w : World) (hT : TLies w a arg) (hs : ∀ t ∈ arg, t.text.length ≤ 1000000) :
    Calls Tryz.prog 82 #[.slice a arg.length c, .bool z] w fun e w' => e = .returned (refRegV (regF arg z)) ∧ w' = w := by
  by_cases h1 : arg.length = 1
  · match arg, h1, hT, hs with
    | [t], _, hT, hs =>
      rcases hT with h | ⟨g, o, rfl, hl⟩
      · cases h
      obtain ⟨q0, q1, _, _⟩ := hl 0 t rfl
      simp only [Nat.zero_mul, Nat.add_zero] at q0 q1
      have hts := hs t (by simp)
      by_cases hk : t.kind = 1
      · rw [hk] at q0
        have hw : wordF [t] = t.text := by simp [wordF, hk]
        have hr := refRegister_any (str t.text) (by rw [str_sizeI]; omega) w
        have hF : regF [t] z = if (isR (str t.text) || isZ (str t.text)) = true ∧ isZ (str t.text) = z then some (regN (str t.text)) else none := by unfold regF; rw [hw]
        rw [hF]
        generalize regN (str t.text) = N at hr ⊢
        generalize (isR (str t.text) || isZ (str t.text)) = ok at hr ⊢
        generalize isZ (str t.text) = zz at hr ⊢
        replace hr := Hid.intro hr
        clear hF hw hs hl
        show Calls Tryz.prog 82 #[.slice (some ⟨g, o, none⟩) 1 c, .bool z] w _
        cases ok
        · rw [if_neg (by simp)]
          go_enter Tryz.func82, Tryz.ntmps82
          go_wp2_with (go_at_call 59; (with_reducible refine (hr.out).mono ?_); rintro e w' ⟨rfl, rfl⟩)
          all_goals first | omega | skip
          go_ret2
          exact ⟨rfl, rfl⟩
        · cases zz <;> cases z
          all_goals (try rw [if_pos ⟨rfl, rfl⟩])
          all_goals (try rw [if_neg (fun h => nomatch h.2)])
          all_goals
            go_enter Tryz.func82, Tryz.ntmps82
            go_wp2_with (go_at_call 59; (with_reducible refine (hr.out).mono ?_); rintro e w' ⟨rfl, rfl⟩)
            all_goals first | omega | skip
            go_ret2
            exact ⟨rfl, rfl⟩
      · rw [regF_nil [t] z (by simp [wordF, hk])]
        have hk' : (t.kind == 1) = false := by simp [hk]
        clear hs hl
        show Calls Tryz.prog 82 #[.slice (some ⟨g, o, none⟩) 1 c, .bool z] w _
        go_enter Tryz.func82, Tryz.ntmps82
        go_wp2
        all_goals first | omega | skip
        go_ret2
        exact ⟨rfl, rfl⟩
  · rw [regF_nil arg z (wordF_other h1)]
    generalize arg.length = n0 at h1 ⊢
    have h1' : ¬ ((n0 : Int) = 1) := by omega
    clear hT hs
    go_enter Tryz.func82, Tryz.ntmps82
    go_wp2
    all_goals first | omega | skip
    go_ret2
    exact ⟨rfl, rfl⟩

/-- the document's constant, from lo to hi -/
def rconF (arg : List Tok) (lo hi : Int) : Except Int Int :=
  match constF arg with
  | .error k => .error k
  | .ok n => if lo ≤ n ∧ n ≤ hi then .ok n else .error 21

set_option maxHeartbeats 1000000 in
theorem refConst_any (a : Option Addr) (c : Nat) (arg : List Tok) (lo hi : Int) (w : World) (hT : RToks w a arg) :
    Calls Tryz.prog 83 #[.slice a arg.length c, .int .i64 lo, .int .i64 hi] w fun e w' => e = .returned (numV (rconF arg lo hi)) ∧ Below w.heap.size w w' := by
  have hp := refParse_any a c arg w hT
  have hF : rconF arg lo hi = match parseF arg with | .error e => .error e | .ok x => if x.terms.length = 0 ∧ lo ≤ i32F x.const ∧ i32F x.const ≤ hi then .ok (i32F x.const) else .error 21 := by
    unfold rconF constF
    cases parseF arg with
    | error e => rfl
    | ok x =>
      simp only
      by_cases h0 : x.terms.length = 0
      · rw [if_pos h0]
        simp only
        by_cases h1 : lo ≤ i32F x.const ∧ i32F x.const ≤ hi
        · rw [if_pos h1, if_pos ⟨h0, h1⟩]
        · rw [if_neg h1, if_neg (fun h => h1 h.2)]
      · rw [if_neg h0, if_neg (fun h => h0 h.1)]
  rw [hF]
  clear hF
  unfold ParseOut at hp
  have hg := @parseF_good arg
  have he := @parseF_err arg
  generalize parseF arg = R at hp hg he ⊢
  have hfew := hT.few
  clear hT
  generalize arg.length = n0 at hp hg hfew ⊢
  cases R with
  | error k =>
    have hk0 : (k == 0) = false := by rcases he rfl with rfl | rfl <;> rfl
    clear hg he
    have hpH := Hid.intro hp
    clear hp
    go_enter Tryz.func83, Tryz.ntmps83
    go_wp2_with (go_at_call 84; (with_reducible refine (hpH.out).mono ?_); rintro e w1 ⟨hb1, rfl⟩)
    all_goals first | omega | skip
    go_ret2
    exact ⟨rfl, hb1.alloc (hb1.size) _⟩
  | ok x =>
    have hx := hg rfl
    have h1 := hx.1.lo
    have h2 := hx.1.hi
    have hpH := Hid.intro hp
    have hw32 := i32_wrap x.const h1 h2
    have hi32 : -2147483648 ≤ i32F x.const ∧ i32F x.const ≤ 2147483647 := by unfold i32F; split <;> omega
    have hw64 : IntKind.i64.wrap (i32F x.const) = i32F x.const := by rw [IntKind.wrap_i64]; omega
    clear hp hg he
    simp only
    generalize i32F x.const = I at hw32 hi32 hw64 ⊢
    by_cases h0 : x.terms.length = 0
    · by_cases hl : lo ≤ I
      · by_cases hh : I ≤ hi
        · rw [if_pos ⟨h0, hl, hh⟩]
          go_enter Tryz.func83, Tryz.ntmps83
          go_wp2_with (go_at_call 84; (with_reducible refine (hpH.out).mono ?_); rintro e w1 ⟨hb1, a1, n1, c1, rfl, hown⟩; have hn1 : n1 = 0 := (own_len hown).trans h0; clear hown; subst hn1)
          all_goals first | omega | skip
          go_ret2
          exact ⟨by first | rfl | (rw [show numV (.ok I) = .tuple #[.int .i64 I, .int .i64 0] from rfl]; simp [hw32, hw64]), hb1.alloc (hb1.size) _⟩
        · rw [if_neg (fun h => hh h.2.2)]
          go_enter Tryz.func83, Tryz.ntmps83
          go_wp2_with (go_at_call 84; (with_reducible refine (hpH.out).mono ?_); rintro e w1 ⟨hb1, a1, n1, c1, rfl, hown⟩; have hn1 : n1 = 0 := (own_len hown).trans h0; clear hown; subst hn1)
          all_goals first | omega | skip
          go_ret2
          exact ⟨rfl, hb1.alloc (hb1.size) _⟩
      · rw [if_neg (fun h => hl h.2.1)]
        go_enter Tryz.func83, Tryz.ntmps83
        go_wp2_with (go_at_call 84; (with_reducible refine (hpH.out).mono ?_); rintro e w1 ⟨hb1, a1, n1, c1, rfl, hown⟩; have hn1 : n1 = 0 := (own_len hown).trans h0; clear hown; subst hn1)
        all_goals first | omega | skip
        go_ret2
        exact ⟨rfl, hb1.alloc (hb1.size) _⟩
    · rw [if_neg (fun h => h0 h.1)]
      go_enter Tryz.func83, Tryz.ntmps83
      go_wp2_with (go_at_call 84; (with_reducible refine (hpH.out).mono ?_); rintro e w1 ⟨hb1, a1, n1, c1, rfl, hown⟩; have hn1 := own_len hown; clear hown; have hn2 : 0 < n1 := (by omega); clear hn1)
      all_goals first | omega | skip
      go_ret2
      exact ⟨rfl, hb1.alloc (hb1.size) _⟩

end Go.Proofs.YtlkmegchaeokgaaGreatDoor
/- The document's code, of two registers and of a small constant. -/
namespace Go.Proofs.YtlkmegchaeokgaaGreatDoor
open Go.ChangeShapes Go.WideShapes Go.ChangeAt Go.RowKit
set_option linter.unusedVariables false
set_option maxRecDepth 100000

/-- the document's arguments that are handed in: all of them below B -/
structure RArgsIn (B : Nat) (w : World) (a : Option Addr) (acc : List (List Tok)) : Prop where
  outer : acc = [] ∨ ∃ G, a = some ⟨G, 0, none⟩ ∧ G < B ∧ ∀ (i : Nat) (xs : List Tok), acc[i]? = some xs → ∃ a' c', w.cell? ⟨G, i, none⟩ = some (.slice a' xs.length c') ∧ RToks w a' xs ∧ ∀ y, a' = some y → y.block < B
  size : B ≤ w.heap.size

theorem RToks.low {w w' : World} {a : Option Addr} {ts : List Tok} {B : Nat} (h : RToks w a ts) (hy : ∀ y, a = some y → y.block < B) (hb : Below B w w') (hB : B ≤ w.heap.size) : RToks w' a ts := by
  refine ⟨?_, fun x hx => by have := hy x hx; have := hb.size; omega, h.few, h.short, h.nums⟩
  rcases h.lies with h1 | ⟨g, o, ha, hl⟩
  · exact .inl h1
  · have hgB := hy _ ha
    refine .inr ⟨g, o, ha, fun i t hi => (hl i t hi).below hb hgB⟩

theorem RArgsIn.below {B : Nat} {w w' : World} {a : Option Addr} {acc : List (List Tok)} (h : RArgsIn B w a acc) (hb : Below B w w') : RArgsIn B w' a acc := by
  refine ⟨?_, Nat.le_trans h.size hb.size⟩
  rcases h.outer with h1 | ⟨G, ha, hG, hl⟩
  · exact .inl h1
  · refine .inr ⟨G, ha, hG, fun i xs hi => ?_⟩
    obtain ⟨a', c', k1, k2, k3⟩ := hl i xs hi
    exact ⟨a', c', (hb.cell (p := ⟨G, i, none⟩) hG).trans k1, k2.low k3 hb h.size, k3⟩

theorem refArgs_any (s : Int) (h1 : 1 ≤ s ∧ s ≤ 13) (w : World) :
    Calls Tryz.prog 81 #[.int .i64 s] w fun e w' => e = .returned (.int .i64 (wantsF s).length) ∧ w' = w := by
  have : s = 1 ∨ s = 2 ∨ s = 3 ∨ s = 4 ∨ s = 5 ∨ s = 6 ∨ s = 7 ∨ s = 8 ∨ s = 9 ∨ s = 10 ∨ s = 11 ∨ s = 12 ∨ s = 13 := by omega
  rcases this with rfl | rfl | rfl | rfl | rfl | rfl | rfl | rfl | rfl | rfl | rfl | rfl | rfl
  all_goals (go_enter Tryz.func81, Tryz.ntmps81; go_wp2; go_ret; exact ⟨rfl, rfl⟩)

abbrev itmZ : Value := .agg (itmCells itmE (.slice none 0 0))

/-- what code leaves -/
def CodeOut (w w' : World) (R : Except Int Itm) (e : Ending) : Prop := Below w.heap.size w w' ∧
  match R with
  | .error k => e = .returned (.tuple #[itmZ, .int .i64 k])
  | .ok x => ∃ va n vc, e = .returned (.tuple #[.agg (itmCells x (.slice va n vc)), .int .i64 0]) ∧ n = x.e.terms.length ∧ TmLies w' va x.e.terms

theorem ten_set {w : World} {g : Nat} {c0 c1 c2 c3 c4 c5 c6 c7 c8 c9 : Value} (h : w.heap[g]? = some (.cells #[c0, c1, c2, c3, c4, c5, c6, c7, c8, c9] 33 (0, 0))) (v0 v1 v2 v3 v4 v5 v6 v7 v8 v9 : Value) :
    ((((((((((w.setCell ⟨g, 0, none⟩ v0).setCell ⟨g, 1, none⟩ v1).setCell ⟨g, 2, none⟩ v2).setCell ⟨g, 3, none⟩ v3).setCell ⟨g, 4, none⟩ v4).setCell ⟨g, 5, none⟩ v5).setCell ⟨g, 6, none⟩ v6).setCell ⟨g, 7, none⟩ v7).setCell ⟨g, 8, none⟩ v8).setCell ⟨g, 9, none⟩ v9).heap[g]? = some (.cells #[v0, v1, v2, v3, v4, v5, v6, v7, v8, v9] 33 (0, 0)) ∧ w.grownBy ((((((((((w.setCell ⟨g, 0, none⟩ v0).setCell ⟨g, 1, none⟩ v1).setCell ⟨g, 2, none⟩ v2).setCell ⟨g, 3, none⟩ v3).setCell ⟨g, 4, none⟩ v4).setCell ⟨g, 5, none⟩ v5).setCell ⟨g, 6, none⟩ v6).setCell ⟨g, 7, none⟩ v7).setCell ⟨g, 8, none⟩ v8).setCell ⟨g, 9, none⟩ v9) (some g) := by
  obtain ⟨a0, b0⟩ := row_set h 0 v0
  rw [show (#[c0, c1, c2, c3, c4, c5, c6, c7, c8, c9] : Array Value).setIfInBounds 0 v0 = #[v0, c1, c2, c3, c4, c5, c6, c7, c8, c9] from rfl] at a0
  obtain ⟨a1, b1⟩ := row_set a0 1 v1
  rw [show (#[v0, c1, c2, c3, c4, c5, c6, c7, c8, c9] : Array Value).setIfInBounds 1 v1 = #[v0, v1, c2, c3, c4, c5, c6, c7, c8, c9] from rfl] at a1
  obtain ⟨a2, b2⟩ := row_set a1 2 v2
  rw [show (#[v0, v1, c2, c3, c4, c5, c6, c7, c8, c9] : Array Value).setIfInBounds 2 v2 = #[v0, v1, v2, c3, c4, c5, c6, c7, c8, c9] from rfl] at a2
  obtain ⟨a3, b3⟩ := row_set a2 3 v3
  rw [show (#[v0, v1, v2, c3, c4, c5, c6, c7, c8, c9] : Array Value).setIfInBounds 3 v3 = #[v0, v1, v2, v3, c4, c5, c6, c7, c8, c9] from rfl] at a3
  obtain ⟨a4, b4⟩ := row_set a3 4 v4
  rw [show (#[v0, v1, v2, v3, c4, c5, c6, c7, c8, c9] : Array Value).setIfInBounds 4 v4 = #[v0, v1, v2, v3, v4, c5, c6, c7, c8, c9] from rfl] at a4
  obtain ⟨a5, b5⟩ := row_set a4 5 v5
  rw [show (#[v0, v1, v2, v3, v4, c5, c6, c7, c8, c9] : Array Value).setIfInBounds 5 v5 = #[v0, v1, v2, v3, v4, v5, c6, c7, c8, c9] from rfl] at a5
  obtain ⟨a6, b6⟩ := row_set a5 6 v6
  rw [show (#[v0, v1, v2, v3, v4, v5, c6, c7, c8, c9] : Array Value).setIfInBounds 6 v6 = #[v0, v1, v2, v3, v4, v5, v6, c7, c8, c9] from rfl] at a6
  obtain ⟨a7, b7⟩ := row_set a6 7 v7
  rw [show (#[v0, v1, v2, v3, v4, v5, v6, c7, c8, c9] : Array Value).setIfInBounds 7 v7 = #[v0, v1, v2, v3, v4, v5, v6, v7, c8, c9] from rfl] at a7
  obtain ⟨a8, b8⟩ := row_set a7 8 v8
  rw [show (#[v0, v1, v2, v3, v4, v5, v6, v7, c8, c9] : Array Value).setIfInBounds 8 v8 = #[v0, v1, v2, v3, v4, v5, v6, v7, v8, c9] from rfl] at a8
  obtain ⟨a9, b9⟩ := row_set a8 9 v9
  rw [show (#[v0, v1, v2, v3, v4, v5, v6, v7, v8, c9] : Array Value).setIfInBounds 9 v9 = #[v0, v1, v2, v3, v4, v5, v6, v7, v8, v9] from rfl] at a9
  refine ⟨?_, grown_trans (grown_trans (grown_trans (grown_trans (grown_trans (grown_trans (grown_trans (grown_trans (grown_trans b0 b1) b2) b3) b4) b5) b6) b7) b8) b9⟩
  exact a9

/-- while code runs: the result, and x -/
structure CSt (w : World) (B : Nat) (a : Option Addr) (args : List (List Tok)) (x : Itm) (p : Nat) (wr : World) : Prop where
  bel : Below w.heap.size w wr
  res : wr.heap[w.heap.size]? = some (.cells (itmCells itmE (.slice none 0 0)) 33 (0, 0))
  row : wr.heap[p]? = some (.cells (itmCells x (.slice none 0 0)) 33 (0, 0))
  lo : w.heap.size < p
  ins : RArgsIn w.heap.size wr a args

theorem cst_new {w w1 : World} {a : Option Addr} {args : List (List Tok)} (hA : RArgsIn w.heap.size w a args) (x : Itm) (hb : Below (w.alloc (.cells (itmCells itmE (.slice none 0 0)) 33)).heap.size (w.alloc (.cells (itmCells itmE (.slice none 0 0)) 33)) w1) : CSt w 0 a args x w1.heap.size (w1.alloc (.cells (itmCells x (.slice none 0 0)) 33)) := by
  have hs := hb.size
  have hs0 : (w.alloc (.cells (itmCells itmE (.slice none 0 0)) 33)).heap.size = w.heap.size + 1 := by simp
  have hB : Below w.heap.size w (w1.alloc (.cells (itmCells x (.slice none 0 0)) 33)) := ((below_alloc w _).trans (hb.mono (by omega))).alloc (by omega) _
  exact ⟨hB, by rw [Below.heap_alloc _ _ _ (by omega), hb.block _ (by omega)]; exact heap_alloc_new w _, heap_alloc_new w1 _, by omega, hA.below hB⟩

theorem CSt.put {w : World} {a : Option Addr} {args : List (List Tok)} {x x' : Itm} {p : Nat} {wr : World} (h : CSt w 0 a args x p wr) (j : Nat) (v : Value) (hj : (itmCells x (.slice none 0 0)).setIfInBounds j v = itmCells x' (.slice none 0 0)) : CSt w 0 a args x' p (wr.setCell ⟨p, j, none⟩ v) := by
  obtain ⟨s1, s2⟩ := row_set h.row j v
  have hB : Below w.heap.size wr (wr.setCell ⟨p, j, none⟩ v) := below_of_grown s2 (Nat.le_of_lt h.lo) h.bel.size
  exact ⟨h.bel.trans hB, by rw [s2.block _ (blk_lt h.res) (by have := h.lo; simp; omega)]; exact h.res, by rw [s1, hj], h.lo, h.ins.below hB⟩

theorem CSt.below {w : World} {a : Option Addr} {args : List (List Tok)} {x : Itm} {p : Nat} {wr w' : World} (h : CSt w 0 a args x p wr) (hb : Below wr.heap.size wr w') : CSt w 0 a args x p w' :=
  ⟨h.bel.trans (hb.mono h.bel.size), by rw [hb.block _ (blk_lt h.res)]; exact h.res, by rw [hb.block _ (blk_lt h.row)]; exact h.row, h.lo, h.ins.below (hb.mono h.bel.size)⟩

end Go.Proofs.YtlkmegchaeokgaaGreatDoor
/- The document's code, of two registers and of a small constant. -/
namespace Go.Proofs.YtlkmegchaeokgaaGreatDoor
open Go.ChangeShapes Go.WideShapes Go.ChangeAt Go.RowKit
set_option linter.unusedVariables false
set_option maxRecDepth 100000

theorem opF_two (x1 x2 : List Tok) (x : Itm) : opF (wantsF 4) [x1, x2] 0 x = match regF x1 false with | none => .error 20 | some r1 => match regF x2 false with | none => .error 20 | some r2 => .ok (setReg 1 r2 (setReg 0 r1 x)) := by
  have h0 : ∀ (arg : List Tok) (p : Nat) (y : Itm), stepF 114 p arg y = match regF arg false with | none => .error 20 | some n => .ok (setReg p n y) := fun arg p y => by unfold stepF; rw [if_pos (.inl rfl)]; try rfl
  have e0 : atI (bs (str (wantsF 4))) 0 = 114 := rfl
  have e1 : atI (bs (str (wantsF 4))) 1 = 114 := rfl
  rw [opF, e0, h0]
  cases regF x1 false with
  | none => rfl
  | some r1 =>
    simp only
    rw [opF, e1, h0]
    cases regF x2 false with
    | none => rfl
    | some r2 => rfl

theorem opF_small (x1 x2 : List Tok) (x : Itm) : opF (wantsF 8) [x1, x2] 0 x = match regF x1 false with | none => .error 20 | some r1 => match constF x2 with | .error k => .error k | .ok n => if checkN x.op r1 x.b n x.form = 0 then .ok { setReg 0 r1 x with m := n } else .error 21 := by
  have h0 : ∀ (arg : List Tok) (p : Nat) (y : Itm), stepF 114 p arg y = match regF arg false with | none => .error 20 | some n => .ok (setReg p n y) := fun arg p y => by unfold stepF; rw [if_pos (.inl rfl)]; try rfl
  have h1 : ∀ (arg : List Tok) (p : Nat) (y : Itm), stepF 110 p arg y = match constF arg with | .error k => .error k | .ok n => if checkN y.op y.a y.b n y.form = 0 then .ok { y with m := n } else .error 21 := fun arg p y => by unfold stepF; rw [if_neg (by omega), if_pos rfl]; try rfl
  have e0 : atI (bs (str (wantsF 8))) 0 = 114 := rfl
  have e1 : atI (bs (str (wantsF 8))) 1 = 110 := rfl
  rw [opF, e0, h0]
  cases regF x1 false with
  | none => rfl
  | some r1 =>
    simp only
    rw [opF, e1, h1]
    cases constF x2 with
    | error k => rfl
    | ok n =>
      simp only [setReg]
      by_cases hc : checkN x.op r1 x.b n x.form = 0
      · simp [hc, opF]
      · simp [hc]

set_option maxHeartbeats 1000000 in
theorem codeTwo (op : Int) (hS : shapeN op = 4) (a : Option Addr) (c : Nat) (x1 x2 : List Tok) (w : World) (hA : RArgsIn w.heap.size w a [x1, x2]) :
    Calls Tryz.prog 54 #[.int .i64 op, .slice a 2 c] w fun e w' => CodeOut w w' (opF (wantsF 4) [x1, x2] 0 (opItm op)) e := by
  rw [opF_two]
  have hsh := fun w1 => shape_any op w1
  rw [hS] at hsh
  replace hsh := Hid.intro hsh
  have har := Hid.intro (fun w1 => refArgs_any 4 (by omega) w1)
  obtain ⟨G, hG⟩ : ∃ G, a = some ⟨G, 0, none⟩ := by
    rcases hA.outer with h | ⟨G, h, _⟩
    · cases h
    · exact ⟨G, h⟩
  subst hG
  have hreg : Hid (∀ (i : Nat) (xs : List Tok) (wr : World), [x1, x2][i]? = some xs → RArgsIn w.heap.size wr (some ⟨G, 0, none⟩) [x1, x2] → ∃ a' c', wr.cell? ⟨G, i, none⟩ = some (.slice a' xs.length c') ∧ Calls Tryz.prog 82 #[.slice a' xs.length c', .bool false] wr fun e w' => e = .returned (refRegV (regF xs false)) ∧ w' = wr) := fun i xs wr hi hR => by
    rcases hR.outer with h | ⟨G', h, hGB, hl⟩
    · cases h
    · cases h
      obtain ⟨a', c', k1, k2, k3⟩ := hl i xs hi
      exact ⟨a', c', k1, refReg_any a' c' xs false wr k2.lies k2.short⟩
  have hAH := Hid.intro hA
  clear hS hA
  cases h1 : regF x1 false with
  | none =>
    go_enter Tryz.func54, Tryz.ntmps54
    go_upto_region 15 with (first | (go_at_call 60; (with_reducible refine (hsh.out _).mono ?_); rintro e w1 ⟨rfl, hb1⟩; have hC : Hid (CSt w 0 (some ⟨G, 0, none⟩) [x1, x2] (opItm op) w1.heap.size (w1.alloc (.cells #[.int .i64 2, .string ⟨#[]⟩, .int .i64 op, .int .i64 0, .int .i64 0, .int .i32 0, .int .i64 0, .slice none 0 0, .int .u32 0, .int .i64 0] 33))) := cst_new hAH.out (opItm op) hb1) | (go_at_call 81; (with_reducible refine (har.out _).mono ?_); rintro e w2 ⟨rfl, rfl⟩))
    all_goals first | omega | skip
    obtain ⟨p, hp⟩ : ∃ p, p = w2.heap.size := ⟨_, rfl⟩
    rw [← hp] at hC ⊢
    replace hC := hC.out
    generalize (w2.alloc (.cells #[.int .i64 2, .string ⟨#[]⟩, .int .i64 op, .int .i64 0, .int .i64 0, .int .i32 0, .int .i64 0, .slice none 0 0, .int .u32 0, .int .i64 0] 33)) = w3 at hC ⊢
    clear hp hb1
    replace hC := Hid.intro hC
    obtain ⟨a1, c1, hc1, hcall1⟩ := hreg.out 0 x1 w3 rfl hC.out.ins
    rw [h1] at hcall1
    simp only [refRegV] at hcall1
    replace hcall1 := Hid.intro hcall1
    have hlo := hC.out.lo
    obtain ⟨q0, q1, q2, q3, q4, q5, q6, q7, q8, q9⟩ := itAt_row hC.out.row
    have qf := fun j => frozen_of_row w3 p j _ 33 hC.out.row
    have n1 : ¬ p = w.heap.size := by omega
    have n2 : ¬ w.heap.size = p := by omega
    obtain ⟨t0, t1, t2, t3, t4, t5, t6, t7, t8, t9⟩ := itAt_row hC.out.res
    have tf := fun j => frozen_of_row w3 w.heap.size j _ 33 hC.out.res
    go_wp2_with (go_at_call 82; (with_reducible refine (hcall1.out).mono ?_); rintro e w5 ⟨rfl, rfl⟩)
    all_goals first | omega | skip
    have hF := hC.out.put (x' := opItm op) 3 (.int .i64 0) rfl
    generalize (w5.setCell ⟨p, 3, none⟩ (.int .i64 0)) = w6 at hF ⊢
    obtain ⟨s1, s2⟩ := ten_set hF.res (.int .i64 0) (.string ⟨#[]⟩) (.int .i64 0) (.int .i64 0) (.int .i64 0) (.int .i32 0) (.int .i64 0) (.slice none 0 0) (.int .u32 0) (.int .i64 0)
    have hB9 := hF.bel.grown s2 hF.bel.size (fun j hj => by cases hj; exact Nat.le_refl _)
    generalize (((((((((w6.setCell ⟨w.heap.size, 0, none⟩ (.int .i64 0)).setCell ⟨w.heap.size, 1, none⟩ (.string ⟨#[]⟩)).setCell ⟨w.heap.size, 2, none⟩ (.int .i64 0)).setCell ⟨w.heap.size, 3, none⟩ (.int .i64 0)).setCell ⟨w.heap.size, 4, none⟩ (.int .i64 0)).setCell ⟨w.heap.size, 5, none⟩ (.int .i32 0)).setCell ⟨w.heap.size, 6, none⟩ (.int .i64 0)).setCell ⟨w.heap.size, 7, none⟩ (.slice none 0 0)).setCell ⟨w.heap.size, 8, none⟩ (.int .u32 0)).setCell ⟨w.heap.size, 9, none⟩ (.int .i64 0) = w9 at s1 s2 hB9 ⊢
    have k := fun j => cell_blockT s1 j
    have k0 := (k 0).trans rfl
    have k1 := (k 1).trans rfl
    have k2 := (k 2).trans rfl
    have k3 := (k 3).trans rfl
    have k4 := (k 4).trans rfl
    have k5 := (k 5).trans rfl
    have k6 := (k 6).trans rfl
    have k7 := (k 7).trans rfl
    have k8 := (k 8).trans rfl
    have k9 := (k 9).trans rfl
    refine bodyPost_ret (by simp [results, Tryz.results54, go_sem, k0, k1, k2, k3, k4, k5, k6, k7, k8, k9]; try rfl) rfl ?_
    exact ⟨hB9, rfl⟩
  | some r1 =>
    cases h2 : regF x2 false with
    | none =>
      simp only
      go_enter Tryz.func54, Tryz.ntmps54
      go_upto_region 15 with (first | (go_at_call 60; (with_reducible refine (hsh.out _).mono ?_); rintro e w1 ⟨rfl, hb1⟩; have hC : Hid (CSt w 0 (some ⟨G, 0, none⟩) [x1, x2] (opItm op) w1.heap.size (w1.alloc (.cells #[.int .i64 2, .string ⟨#[]⟩, .int .i64 op, .int .i64 0, .int .i64 0, .int .i32 0, .int .i64 0, .slice none 0 0, .int .u32 0, .int .i64 0] 33))) := cst_new hAH.out (opItm op) hb1) | (go_at_call 81; (with_reducible refine (har.out _).mono ?_); rintro e w2 ⟨rfl, rfl⟩))
      all_goals first | omega | skip
      obtain ⟨p, hp⟩ : ∃ p, p = w2.heap.size := ⟨_, rfl⟩
      rw [← hp] at hC ⊢
      replace hC := hC.out
      generalize (w2.alloc (.cells #[.int .i64 2, .string ⟨#[]⟩, .int .i64 op, .int .i64 0, .int .i64 0, .int .i32 0, .int .i64 0, .slice none 0 0, .int .u32 0, .int .i64 0] 33)) = w3 at hC ⊢
      clear hp hb1
      replace hC := Hid.intro hC
      obtain ⟨a1, c1, hc1, hcall1⟩ := hreg.out 0 x1 w3 rfl hC.out.ins
      rw [h1] at hcall1
      simp only [refRegV] at hcall1
      replace hcall1 := Hid.intro hcall1
      have hlo := hC.out.lo
      obtain ⟨q0, q1, q2, q3, q4, q5, q6, q7, q8, q9⟩ := itAt_row hC.out.row
      have qf := fun j => frozen_of_row w3 p j _ 33 hC.out.row
      have n1 : ¬ p = w.heap.size := by omega
      have n2 : ¬ w.heap.size = p := by omega
      obtain ⟨t0, t1, t2, t3, t4, t5, t6, t7, t8, t9⟩ := itAt_row hC.out.res
      have tf := fun j => frozen_of_row w3 w.heap.size j _ 33 hC.out.res
      clear t0 t1 t2 t3 t4 t5 t6 t7 t8 t9 tf
      go_upto_region 27 with (go_at_call 82; (with_reducible refine (hcall1.out).mono ?_); rintro e w5 ⟨rfl, rfl⟩)
      all_goals first | omega | skip
      have hF := hC.out.put (x' := setReg 0 r1 (opItm op)) 3 (.int .i64 r1) rfl
      generalize (w5.setCell ⟨p, 3, none⟩ (.int .i64 r1)) = w6 at hF ⊢
      clear q0 q1 q2 q3 q4 q5 q6 q7 q8 q9 qf hc1 hcall1 hC
      replace hF := Hid.intro hF
      obtain ⟨a2, c2, hc2, hcall2⟩ := hreg.out 1 x2 w6 rfl hF.out.ins
      obtain ⟨q0, q1, q2, q3, q4, q5, q6, q7, q8, q9⟩ := itAt_row hF.out.row
      have qf := fun j => frozen_of_row w6 p j _ 33 hF.out.row
      obtain ⟨t0, t1, t2, t3, t4, t5, t6, t7, t8, t9⟩ := itAt_row hF.out.res
      have tf := fun j => frozen_of_row w6 w.heap.size j _ 33 hF.out.res
      rw [h2] at hcall2
      simp only [refRegV] at hcall2
      replace hcall2 := Hid.intro hcall2
      go_wp2_with (go_at_call 82; (with_reducible refine (hcall2.out).mono ?_); rintro e w7 ⟨rfl, rfl⟩)
      all_goals first | omega | skip
      replace hF := hF.out.put (x' := setReg 0 r1 (opItm op)) 4 (.int .i64 0) rfl
      generalize (w7.setCell ⟨p, 4, none⟩ (.int .i64 0)) = w8 at hF ⊢
      obtain ⟨s1, s2⟩ := ten_set hF.res (.int .i64 0) (.string ⟨#[]⟩) (.int .i64 0) (.int .i64 0) (.int .i64 0) (.int .i32 0) (.int .i64 0) (.slice none 0 0) (.int .u32 0) (.int .i64 0)
      have hB9 := hF.bel.grown s2 hF.bel.size (fun j hj => by cases hj; exact Nat.le_refl _)
      generalize (((((((((w8.setCell ⟨w.heap.size, 0, none⟩ (.int .i64 0)).setCell ⟨w.heap.size, 1, none⟩ (.string ⟨#[]⟩)).setCell ⟨w.heap.size, 2, none⟩ (.int .i64 0)).setCell ⟨w.heap.size, 3, none⟩ (.int .i64 0)).setCell ⟨w.heap.size, 4, none⟩ (.int .i64 0)).setCell ⟨w.heap.size, 5, none⟩ (.int .i32 0)).setCell ⟨w.heap.size, 6, none⟩ (.int .i64 0)).setCell ⟨w.heap.size, 7, none⟩ (.slice none 0 0)).setCell ⟨w.heap.size, 8, none⟩ (.int .u32 0)).setCell ⟨w.heap.size, 9, none⟩ (.int .i64 0) = w9 at s1 s2 hB9 ⊢
      have k := fun j => cell_blockT s1 j
      have k0 := (k 0).trans rfl
      have k1 := (k 1).trans rfl
      have k2 := (k 2).trans rfl
      have k3 := (k 3).trans rfl
      have k4 := (k 4).trans rfl
      have k5 := (k 5).trans rfl
      have k6 := (k 6).trans rfl
      have k7 := (k 7).trans rfl
      have k8 := (k 8).trans rfl
      have k9 := (k 9).trans rfl
      refine bodyPost_ret (by simp [results, Tryz.results54, go_sem, k0, k1, k2, k3, k4, k5, k6, k7, k8, k9]; try rfl) rfl ?_
      exact ⟨hB9, rfl⟩
    | some r2 =>
      simp only
      go_enter Tryz.func54, Tryz.ntmps54
      go_upto_region 15 with (first | (go_at_call 60; (with_reducible refine (hsh.out _).mono ?_); rintro e w1 ⟨rfl, hb1⟩; have hC : Hid (CSt w 0 (some ⟨G, 0, none⟩) [x1, x2] (opItm op) w1.heap.size (w1.alloc (.cells #[.int .i64 2, .string ⟨#[]⟩, .int .i64 op, .int .i64 0, .int .i64 0, .int .i32 0, .int .i64 0, .slice none 0 0, .int .u32 0, .int .i64 0] 33))) := cst_new hAH.out (opItm op) hb1) | (go_at_call 81; (with_reducible refine (har.out _).mono ?_); rintro e w2 ⟨rfl, rfl⟩))
      all_goals first | omega | skip
      obtain ⟨p, hp⟩ : ∃ p, p = w2.heap.size := ⟨_, rfl⟩
      rw [← hp] at hC ⊢
      replace hC := hC.out
      generalize (w2.alloc (.cells #[.int .i64 2, .string ⟨#[]⟩, .int .i64 op, .int .i64 0, .int .i64 0, .int .i32 0, .int .i64 0, .slice none 0 0, .int .u32 0, .int .i64 0] 33)) = w3 at hC ⊢
      clear hp hb1
      replace hC := Hid.intro hC
      obtain ⟨a1, c1, hc1, hcall1⟩ := hreg.out 0 x1 w3 rfl hC.out.ins
      rw [h1] at hcall1
      simp only [refRegV] at hcall1
      replace hcall1 := Hid.intro hcall1
      have hlo := hC.out.lo
      obtain ⟨q0, q1, q2, q3, q4, q5, q6, q7, q8, q9⟩ := itAt_row hC.out.row
      have qf := fun j => frozen_of_row w3 p j _ 33 hC.out.row
      have n1 : ¬ p = w.heap.size := by omega
      have n2 : ¬ w.heap.size = p := by omega
      obtain ⟨t0, t1, t2, t3, t4, t5, t6, t7, t8, t9⟩ := itAt_row hC.out.res
      have tf := fun j => frozen_of_row w3 w.heap.size j _ 33 hC.out.res
      clear t0 t1 t2 t3 t4 t5 t6 t7 t8 t9 tf
      go_upto_region 27 with (go_at_call 82; (with_reducible refine (hcall1.out).mono ?_); rintro e w5 ⟨rfl, rfl⟩)
      all_goals first | omega | skip
      have hF := hC.out.put (x' := setReg 0 r1 (opItm op)) 3 (.int .i64 r1) rfl
      generalize (w5.setCell ⟨p, 3, none⟩ (.int .i64 r1)) = w6 at hF ⊢
      clear q0 q1 q2 q3 q4 q5 q6 q7 q8 q9 qf hc1 hcall1 hC
      replace hF := Hid.intro hF
      obtain ⟨a2, c2, hc2, hcall2⟩ := hreg.out 1 x2 w6 rfl hF.out.ins
      obtain ⟨q0, q1, q2, q3, q4, q5, q6, q7, q8, q9⟩ := itAt_row hF.out.row
      have qf := fun j => frozen_of_row w6 p j _ 33 hF.out.row
      obtain ⟨t0, t1, t2, t3, t4, t5, t6, t7, t8, t9⟩ := itAt_row hF.out.res
      have tf := fun j => frozen_of_row w6 w.heap.size j _ 33 hF.out.res
      rw [h2] at hcall2
      simp only [refRegV] at hcall2
      replace hcall2 := Hid.intro hcall2
      go_wp2_with (go_at_call 82; (with_reducible refine (hcall2.out).mono ?_); rintro e w7 ⟨rfl, rfl⟩)
      all_goals first | omega | skip
      replace hF := (hF.out.put (x' := setReg 1 r2 (setReg 0 r1 (opItm op))) 4 (.int .i64 r2) rfl).put (x' := setReg 1 r2 (setReg 0 r1 (opItm op))) 5 (.int .i32 0) rfl
      generalize ((w7.setCell ⟨p, 4, none⟩ (.int .i64 r2)).setCell ⟨p, 5, none⟩ (.int .i32 0)) = w8 at hF ⊢
      obtain ⟨s1, s2⟩ := ten_set hF.res (.int .i64 (setReg 0 r1 (opItm op)).kind) (.string (str (setReg 0 r1 (opItm op)).name)) (.int .i64 (setReg 0 r1 (opItm op)).op) (.int .i64 (setReg 0 r1 (opItm op)).a) (.int .i64 r2) (.int .i32 0) (.int .i64 (setReg 0 r1 (opItm op)).form) (.slice none 0 0) (.int .u32 (setReg 0 r1 (opItm op)).e.const) (.int .i64 (setReg 0 r1 (opItm op)).n)
      have hB9 := hF.bel.grown s2 hF.bel.size (fun j hj => by cases hj; exact Nat.le_refl _)
      generalize (((((((((w8.setCell ⟨w.heap.size, 0, none⟩ (.int .i64 (setReg 0 r1 (opItm op)).kind)).setCell ⟨w.heap.size, 1, none⟩ (.string (str (setReg 0 r1 (opItm op)).name))).setCell ⟨w.heap.size, 2, none⟩ (.int .i64 (setReg 0 r1 (opItm op)).op)).setCell ⟨w.heap.size, 3, none⟩ (.int .i64 (setReg 0 r1 (opItm op)).a)).setCell ⟨w.heap.size, 4, none⟩ (.int .i64 r2)).setCell ⟨w.heap.size, 5, none⟩ (.int .i32 0)).setCell ⟨w.heap.size, 6, none⟩ (.int .i64 (setReg 0 r1 (opItm op)).form)).setCell ⟨w.heap.size, 7, none⟩ (.slice none 0 0)).setCell ⟨w.heap.size, 8, none⟩ (.int .u32 (setReg 0 r1 (opItm op)).e.const)).setCell ⟨w.heap.size, 9, none⟩ (.int .i64 (setReg 0 r1 (opItm op)).n) = w9 at s1 s2 hB9 ⊢
      have k := fun j => cell_blockT s1 j
      have k0 := (k 0).trans rfl
      have k1 := (k 1).trans rfl
      have k2 := (k 2).trans rfl
      have k3 := (k 3).trans rfl
      have k4 := (k 4).trans rfl
      have k5 := (k 5).trans rfl
      have k6 := (k 6).trans rfl
      have k7 := (k 7).trans rfl
      have k8 := (k 8).trans rfl
      have k9 := (k 9).trans rfl
      refine bodyPost_ret (by simp [results, Tryz.results54, go_sem, k0, k1, k2, k3, k4, k5, k6, k7, k8, k9]; try rfl) rfl ?_
      exact ⟨hB9, none, 0, 0, rfl, rfl, TmLies.nil _ _⟩


end Go.Proofs.YtlkmegchaeokgaaGreatDoor
/- The document's code of a small constant. -/
namespace Go.Proofs.YtlkmegchaeokgaaGreatDoor
open Go.ChangeShapes Go.WideShapes Go.ChangeAt Go.RowKit
set_option linter.unusedVariables false
set_option maxRecDepth 100000

theorem rconF_err {arg : List Tok} {lo hi k : Int} (h : rconF arg lo hi = .error k) : k = 20 ∨ k = 21 := by
  unfold rconF at h
  cases hc : constF arg with
  | error e => rw [hc] at h; cases h; exact constF_err hc
  | ok n =>
    rw [hc] at h
    simp only at h
    split at h
    · cases h
    · cases h; exact .inr rfl
theorem rconF_range {arg : List Tok} {lo hi n : Int} (h : rconF arg lo hi = .ok n) : lo ≤ n ∧ n ≤ hi := by
  unfold rconF at h
  cases hc : constF arg with
  | error e => rw [hc] at h; cases h
  | ok m =>
    rw [hc] at h
    simp only at h
    split at h
    · cases h; assumption
    · cases h

/-- a small constant, with its register -/
def smallR (op r1 : Int) (R : Except Int Int) : Except Int Itm := match R with | .error k => .error k | .ok n => .ok { setReg 0 r1 (opItm op) with m := n }

theorem small_check (op : Int) (hop : 1 ≤ op ∧ op ≤ 43) (hS : shapeN op = 8) (r : Int) (hr : 0 ≤ r ∧ r ≤ 7) (n : Int) (hn : -2147483648 ≤ n ∧ n ≤ 2147483647) : checkN op r 0 n 0 = 0 ↔ -128 ≤ n ∧ n ≤ 127 := by
  have h8 : (shapeN op).toNat = 8 := by rw [hS]; rfl
  have e1 : aMax 8 = 7 := rfl
  have e2 : bMax 8 = 0 := rfl
  have e3 : nMin 8 = -128 := rfl
  have e4 : nMax 8 = 127 := rfl
  have hreg : regB r 0 n 8 = true := by simp [regB, e1, e2]; omega
  have hnum : numB n 0 8 = (decide (-128 ≤ n) && decide (n ≤ 127)) := by simp [numB, spansB, e3, e4]
  unfold checkN
  rw [if_neg (by simp; omega), h8, hreg, hnum, if_neg (by simp)]
  by_cases h1 : -128 ≤ n <;> by_cases h2 : n ≤ 127 <;> simp [h1, h2]

set_option maxHeartbeats 1000000 in
theorem codeSmall (op : Int) (hop : 1 ≤ op ∧ op ≤ 43) (hS : shapeN op = 8) (a : Option Addr) (c : Nat) (x1 x2 : List Tok) (w : World) (hA : RArgsIn w.heap.size w a [x1, x2]) :
    Calls Tryz.prog 54 #[.int .i64 op, .slice a 2 c] w fun e w' => CodeOut w w' (opF (wantsF 8) [x1, x2] 0 (opItm op)) e := by
  have hsh := fun w1 => shape_any op w1
  rw [hS] at hsh
  replace hsh := Hid.intro hsh
  have har := Hid.intro (fun w1 => refArgs_any 8 (by omega) w1)
  obtain ⟨G, hG⟩ : ∃ G, a = some ⟨G, 0, none⟩ := by
    rcases hA.outer with h | ⟨G, h, _⟩
    · cases h
    · exact ⟨G, h⟩
  subst hG
  have hreg : Hid (∀ (i : Nat) (xs : List Tok) (wr : World), [x1, x2][i]? = some xs → RArgsIn w.heap.size wr (some ⟨G, 0, none⟩) [x1, x2] → ∃ a' c', wr.cell? ⟨G, i, none⟩ = some (.slice a' xs.length c') ∧ Calls Tryz.prog 82 #[.slice a' xs.length c', .bool false] wr fun e w' => e = .returned (refRegV (regF xs false)) ∧ w' = wr) := fun i xs wr hi hR => by
    rcases hR.outer with h | ⟨G', h, hGB, hl⟩
    · cases h
    · cases h
      obtain ⟨a', c', k1, k2, k3⟩ := hl i xs hi
      exact ⟨a', c', k1, refReg_any a' c' xs false wr k2.lies k2.short⟩
  have hcon : Hid (∀ (wr : World), RArgsIn w.heap.size wr (some ⟨G, 0, none⟩) [x1, x2] → ∃ a' c', wr.cell? ⟨G, 1, none⟩ = some (.slice a' x2.length c') ∧ Calls Tryz.prog 83 #[.slice a' x2.length c', .int .i64 (-128), .int .i64 127] wr fun e w' => e = .returned (numV (rconF x2 (-128) 127)) ∧ Below wr.heap.size wr w') := fun wr hR => by
    rcases hR.outer with h | ⟨G', h, hGB, hl⟩
    · cases h
    · cases h
      obtain ⟨a', c', k1, k2, k3⟩ := hl 1 x2 rfl
      exact ⟨a', c', k1, refConst_any a' c' x2 (-128) 127 wr k2⟩
  have hAH := Hid.intro hA
  have hS0 := Hid.intro hS
  clear hS hA
  cases h1 : regF x1 false with
  | none =>
    rw [show opF (wantsF 8) [x1, x2] 0 (opItm op) = .error 20 from by rw [opF_small, h1]]
    go_enter Tryz.func54, Tryz.ntmps54
    go_upto_region 15 with (first | (go_at_call 60; (with_reducible refine (hsh.out _).mono ?_); rintro e w1 ⟨rfl, hb1⟩; have hC : Hid (CSt w 0 (some ⟨G, 0, none⟩) [x1, x2] (opItm op) w1.heap.size (w1.alloc (.cells #[.int .i64 2, .string ⟨#[]⟩, .int .i64 op, .int .i64 0, .int .i64 0, .int .i32 0, .int .i64 0, .slice none 0 0, .int .u32 0, .int .i64 0] 33))) := cst_new hAH.out (opItm op) hb1) | (go_at_call 81; (with_reducible refine (har.out _).mono ?_); rintro e w2 ⟨rfl, rfl⟩))
    all_goals first | omega | skip
    obtain ⟨p, hp⟩ : ∃ p, p = w2.heap.size := ⟨_, rfl⟩
    rw [← hp] at hC ⊢
    replace hC := hC.out
    generalize (w2.alloc (.cells #[.int .i64 2, .string ⟨#[]⟩, .int .i64 op, .int .i64 0, .int .i64 0, .int .i32 0, .int .i64 0, .slice none 0 0, .int .u32 0, .int .i64 0] 33)) = w3 at hC ⊢
    clear hp hb1
    replace hC := Hid.intro hC
    obtain ⟨a1, c1, hc1, hcall1⟩ := hreg.out 0 x1 w3 rfl hC.out.ins
    rw [h1] at hcall1
    simp only [refRegV] at hcall1
    replace hcall1 := Hid.intro hcall1
    have hlo := hC.out.lo
    obtain ⟨q0, q1, q2, q3, q4, q5, q6, q7, q8, q9⟩ := itAt_row hC.out.row
    have qf := fun j => frozen_of_row w3 p j _ 33 hC.out.row
    have n1 : ¬ p = w.heap.size := by omega
    have n2 : ¬ w.heap.size = p := by omega
    obtain ⟨t0, t1, t2, t3, t4, t5, t6, t7, t8, t9⟩ := itAt_row hC.out.res
    have tf := fun j => frozen_of_row w3 w.heap.size j _ 33 hC.out.res
    go_wp2_with (go_at_call 82; (with_reducible refine (hcall1.out).mono ?_); rintro e w5 ⟨rfl, rfl⟩)
    all_goals first | omega | skip
    have hF := hC.out.put (x' := opItm op) 3 (.int .i64 0) rfl
    generalize (w5.setCell ⟨p, 3, none⟩ (.int .i64 0)) = w6 at hF ⊢
    obtain ⟨s1, s2⟩ := ten_set hF.res (.int .i64 0) (.string ⟨#[]⟩) (.int .i64 0) (.int .i64 0) (.int .i64 0) (.int .i32 0) (.int .i64 0) (.slice none 0 0) (.int .u32 0) (.int .i64 0)
    have hB9 := hF.bel.grown s2 hF.bel.size (fun j hj => by cases hj; exact Nat.le_refl _)
    generalize (((((((((w6.setCell ⟨w.heap.size, 0, none⟩ (.int .i64 0)).setCell ⟨w.heap.size, 1, none⟩ (.string ⟨#[]⟩)).setCell ⟨w.heap.size, 2, none⟩ (.int .i64 0)).setCell ⟨w.heap.size, 3, none⟩ (.int .i64 0)).setCell ⟨w.heap.size, 4, none⟩ (.int .i64 0)).setCell ⟨w.heap.size, 5, none⟩ (.int .i32 0)).setCell ⟨w.heap.size, 6, none⟩ (.int .i64 0)).setCell ⟨w.heap.size, 7, none⟩ (.slice none 0 0)).setCell ⟨w.heap.size, 8, none⟩ (.int .u32 0)).setCell ⟨w.heap.size, 9, none⟩ (.int .i64 0) = w9 at s1 s2 hB9 ⊢
    have k := fun j => cell_blockT s1 j
    have k0 := (k 0).trans rfl
    have k1 := (k 1).trans rfl
    have k2 := (k 2).trans rfl
    have k3 := (k 3).trans rfl
    have k4 := (k 4).trans rfl
    have k5 := (k 5).trans rfl
    have k6 := (k 6).trans rfl
    have k7 := (k 7).trans rfl
    have k8 := (k 8).trans rfl
    have k9 := (k 9).trans rfl
    refine bodyPost_ret (by simp [results, Tryz.results54, go_sem, k0, k1, k2, k3, k4, k5, k6, k7, k8, k9]; try rfl) rfl ?_
    exact ⟨hB9, rfl⟩
  | some r1 =>
    have hr1 := regF_range h1
    have hchk := small_check op hop hS0.out r1 ⟨hr1.1, hr1.2.1⟩
    have heq : opF (wantsF 8) [x1, x2] 0 (opItm op) = smallR op r1 (rconF x2 (-128) 127) := by
      rw [opF_small, h1]
      unfold rconF
      cases hcf : constF x2 with
      | error k => rfl
      | ok n =>
        have := hchk n (constF_range hcf)
        show (if checkN op r1 0 n 0 = 0 then _ else _) = smallR op r1 (if -128 ≤ n ∧ n ≤ 127 then .ok n else .error 21)
        by_cases hb : -128 ≤ n ∧ n ≤ 127
        · rw [if_pos (this.2 hb), if_pos hb]
          rfl
        · rw [if_neg (fun h => hb (this.1 h)), if_neg hb]
          rfl
    rw [heq]
    clear heq
    have hce := @rconF_err x2 (-128) 127
    have hcr := @rconF_range x2 (-128) 127
    cases h2 : rconF x2 (-128) 127 with
    | error k =>
      have hk0 : (k == 0) = false := by rcases hce h2 with rfl | rfl <;> rfl
      clear hce hcr hchk
      simp only [smallR]
      go_enter Tryz.func54, Tryz.ntmps54
      go_upto_region 15 with (first | (go_at_call 60; (with_reducible refine (hsh.out _).mono ?_); rintro e w1 ⟨rfl, hb1⟩; have hC : Hid (CSt w 0 (some ⟨G, 0, none⟩) [x1, x2] (opItm op) w1.heap.size (w1.alloc (.cells #[.int .i64 2, .string ⟨#[]⟩, .int .i64 op, .int .i64 0, .int .i64 0, .int .i32 0, .int .i64 0, .slice none 0 0, .int .u32 0, .int .i64 0] 33))) := cst_new hAH.out (opItm op) hb1) | (go_at_call 81; (with_reducible refine (har.out _).mono ?_); rintro e w2 ⟨rfl, rfl⟩))
      all_goals first | omega | skip
      obtain ⟨p, hp⟩ : ∃ p, p = w2.heap.size := ⟨_, rfl⟩
      rw [← hp] at hC ⊢
      replace hC := hC.out
      generalize (w2.alloc (.cells #[.int .i64 2, .string ⟨#[]⟩, .int .i64 op, .int .i64 0, .int .i64 0, .int .i32 0, .int .i64 0, .slice none 0 0, .int .u32 0, .int .i64 0] 33)) = w3 at hC ⊢
      clear hp hb1
      replace hC := Hid.intro hC
      obtain ⟨a1, c1, hc1, hcall1⟩ := hreg.out 0 x1 w3 rfl hC.out.ins
      rw [h1] at hcall1
      simp only [refRegV] at hcall1
      replace hcall1 := Hid.intro hcall1
      have hlo := hC.out.lo
      obtain ⟨q0, q1, q2, q3, q4, q5, q6, q7, q8, q9⟩ := itAt_row hC.out.row
      have qf := fun j => frozen_of_row w3 p j _ 33 hC.out.row
      have n1 : ¬ p = w.heap.size := by omega
      have n2 : ¬ w.heap.size = p := by omega
      obtain ⟨t0, t1, t2, t3, t4, t5, t6, t7, t8, t9⟩ := itAt_row hC.out.res
      have tf := fun j => frozen_of_row w3 w.heap.size j _ 33 hC.out.res
      clear t0 t1 t2 t3 t4 t5 t6 t7 t8 t9 tf
      go_upto_region 36 with (go_at_call 82; (with_reducible refine (hcall1.out).mono ?_); rintro e w5 ⟨rfl, rfl⟩)
      all_goals first | omega | skip
      have hF := hC.out.put (x' := setReg 0 r1 (opItm op)) 3 (.int .i64 r1) rfl
      generalize (w5.setCell ⟨p, 3, none⟩ (.int .i64 r1)) = w6 at hF ⊢
      clear q0 q1 q2 q3 q4 q5 q6 q7 q8 q9 qf hc1 hcall1 hC
      replace hF := Hid.intro hF
      obtain ⟨a2, c2, hc2, hcall2⟩ := hcon.out w6 hF.out.ins
      obtain ⟨q0, q1, q2, q3, q4, q5, q6, q7, q8, q9⟩ := itAt_row hF.out.row
      have qf := fun j => frozen_of_row w6 p j _ 33 hF.out.row
      rw [h2] at hcall2
      simp only [numV] at hcall2
      replace hcall2 := Hid.intro hcall2
      go_wp2_with (go_at_call 83; (with_reducible refine (hcall2.out).mono ?_); rintro e w7 ⟨rfl, hb7⟩; replace hF := Hid.intro (hF.out.below hb7); obtain ⟨q0, q1, q2, q3, q4, q5, q6, q7, q8, q9⟩ := itAt_row hF.out.row; have qf := fun j => frozen_of_row w7 p j _ 33 hF.out.row; obtain ⟨t0, t1, t2, t3, t4, t5, t6, t7, t8, t9⟩ := itAt_row hF.out.res; have tf := fun j => frozen_of_row w7 w.heap.size j _ 33 hF.out.res)
      all_goals first | omega | skip
      replace hF := hF.out
      obtain ⟨s1, s2⟩ := ten_set hF.res (.int .i64 0) (.string ⟨#[]⟩) (.int .i64 0) (.int .i64 0) (.int .i64 0) (.int .i32 0) (.int .i64 0) (.slice none 0 0) (.int .u32 0) (.int .i64 0)
      have hB9 := hF.bel.grown s2 hF.bel.size (fun j hj => by cases hj; exact Nat.le_refl _)
      generalize (((((((((w7.setCell ⟨w.heap.size, 0, none⟩ (.int .i64 0)).setCell ⟨w.heap.size, 1, none⟩ (.string ⟨#[]⟩)).setCell ⟨w.heap.size, 2, none⟩ (.int .i64 0)).setCell ⟨w.heap.size, 3, none⟩ (.int .i64 0)).setCell ⟨w.heap.size, 4, none⟩ (.int .i64 0)).setCell ⟨w.heap.size, 5, none⟩ (.int .i32 0)).setCell ⟨w.heap.size, 6, none⟩ (.int .i64 0)).setCell ⟨w.heap.size, 7, none⟩ (.slice none 0 0)).setCell ⟨w.heap.size, 8, none⟩ (.int .u32 0)).setCell ⟨w.heap.size, 9, none⟩ (.int .i64 0) = w9 at s1 s2 hB9 ⊢
      have k := fun j => cell_blockT s1 j
      have k0 := (k 0).trans rfl
      have k1 := (k 1).trans rfl
      have k2 := (k 2).trans rfl
      have k3 := (k 3).trans rfl
      have k4 := (k 4).trans rfl
      have k5 := (k 5).trans rfl
      have k6 := (k 6).trans rfl
      have k7 := (k 7).trans rfl
      have k8 := (k 8).trans rfl
      have k9 := (k 9).trans rfl
      refine bodyPost_ret (by simp [results, Tryz.results54, go_sem, k0, k1, k2, k3, k4, k5, k6, k7, k8, k9]; try rfl) rfl ?_
      exact ⟨hB9, rfl⟩
    | ok n =>
      have hn := hcr h2
      have hw32 : IntKind.i32.wrap n = n := by rw [IntKind.wrap_i32]; omega
      clear hce hcr hchk
      simp only [smallR]
      go_enter Tryz.func54, Tryz.ntmps54
      go_upto_region 15 with (first | (go_at_call 60; (with_reducible refine (hsh.out _).mono ?_); rintro e w1 ⟨rfl, hb1⟩; have hC : Hid (CSt w 0 (some ⟨G, 0, none⟩) [x1, x2] (opItm op) w1.heap.size (w1.alloc (.cells #[.int .i64 2, .string ⟨#[]⟩, .int .i64 op, .int .i64 0, .int .i64 0, .int .i32 0, .int .i64 0, .slice none 0 0, .int .u32 0, .int .i64 0] 33))) := cst_new hAH.out (opItm op) hb1) | (go_at_call 81; (with_reducible refine (har.out _).mono ?_); rintro e w2 ⟨rfl, rfl⟩))
      all_goals first | omega | skip
      obtain ⟨p, hp⟩ : ∃ p, p = w2.heap.size := ⟨_, rfl⟩
      rw [← hp] at hC ⊢
      replace hC := hC.out
      generalize (w2.alloc (.cells #[.int .i64 2, .string ⟨#[]⟩, .int .i64 op, .int .i64 0, .int .i64 0, .int .i32 0, .int .i64 0, .slice none 0 0, .int .u32 0, .int .i64 0] 33)) = w3 at hC ⊢
      clear hp hb1
      replace hC := Hid.intro hC
      obtain ⟨a1, c1, hc1, hcall1⟩ := hreg.out 0 x1 w3 rfl hC.out.ins
      rw [h1] at hcall1
      simp only [refRegV] at hcall1
      replace hcall1 := Hid.intro hcall1
      have hlo := hC.out.lo
      obtain ⟨q0, q1, q2, q3, q4, q5, q6, q7, q8, q9⟩ := itAt_row hC.out.row
      have qf := fun j => frozen_of_row w3 p j _ 33 hC.out.row
      have n1 : ¬ p = w.heap.size := by omega
      have n2 : ¬ w.heap.size = p := by omega
      obtain ⟨t0, t1, t2, t3, t4, t5, t6, t7, t8, t9⟩ := itAt_row hC.out.res
      have tf := fun j => frozen_of_row w3 w.heap.size j _ 33 hC.out.res
      clear t0 t1 t2 t3 t4 t5 t6 t7 t8 t9 tf
      go_upto_region 36 with (go_at_call 82; (with_reducible refine (hcall1.out).mono ?_); rintro e w5 ⟨rfl, rfl⟩)
      all_goals first | omega | skip
      have hF := hC.out.put (x' := setReg 0 r1 (opItm op)) 3 (.int .i64 r1) rfl
      generalize (w5.setCell ⟨p, 3, none⟩ (.int .i64 r1)) = w6 at hF ⊢
      clear q0 q1 q2 q3 q4 q5 q6 q7 q8 q9 qf hc1 hcall1 hC
      replace hF := Hid.intro hF
      obtain ⟨a2, c2, hc2, hcall2⟩ := hcon.out w6 hF.out.ins
      obtain ⟨q0, q1, q2, q3, q4, q5, q6, q7, q8, q9⟩ := itAt_row hF.out.row
      have qf := fun j => frozen_of_row w6 p j _ 33 hF.out.row
      rw [h2] at hcall2
      simp only [numV] at hcall2
      replace hcall2 := Hid.intro hcall2
      go_wp2_with (go_at_call 83; (with_reducible refine (hcall2.out).mono ?_); rintro e w7 ⟨rfl, hb7⟩; replace hF := Hid.intro (hF.out.below hb7); obtain ⟨q0, q1, q2, q3, q4, q5, q6, q7, q8, q9⟩ := itAt_row hF.out.row; have qf := fun j => frozen_of_row w7 p j _ 33 hF.out.row; obtain ⟨t0, t1, t2, t3, t4, t5, t6, t7, t8, t9⟩ := itAt_row hF.out.res; have tf := fun j => frozen_of_row w7 w.heap.size j _ 33 hF.out.res)
      all_goals first | omega | skip
      replace hF := hF.out.put (x' := { setReg 0 r1 (opItm op) with m := n }) 5 (.int .i32 n) rfl
      generalize (w7.setCell ⟨p, 5, none⟩ (.int .i32 n)) = w8 at hF ⊢
      obtain ⟨s1, s2⟩ := ten_set hF.res (.int .i64 (setReg 0 r1 (opItm op)).kind) (.string (str (setReg 0 r1 (opItm op)).name)) (.int .i64 (setReg 0 r1 (opItm op)).op) (.int .i64 (setReg 0 r1 (opItm op)).a) (.int .i64 (setReg 0 r1 (opItm op)).b) (.int .i32 n) (.int .i64 (setReg 0 r1 (opItm op)).form) (.slice none 0 0) (.int .u32 (setReg 0 r1 (opItm op)).e.const) (.int .i64 (setReg 0 r1 (opItm op)).n)
      have hB9 := hF.bel.grown s2 hF.bel.size (fun j hj => by cases hj; exact Nat.le_refl _)
      generalize (((((((((w8.setCell ⟨w.heap.size, 0, none⟩ (.int .i64 (setReg 0 r1 (opItm op)).kind)).setCell ⟨w.heap.size, 1, none⟩ (.string (str (setReg 0 r1 (opItm op)).name))).setCell ⟨w.heap.size, 2, none⟩ (.int .i64 (setReg 0 r1 (opItm op)).op)).setCell ⟨w.heap.size, 3, none⟩ (.int .i64 (setReg 0 r1 (opItm op)).a)).setCell ⟨w.heap.size, 4, none⟩ (.int .i64 (setReg 0 r1 (opItm op)).b)).setCell ⟨w.heap.size, 5, none⟩ (.int .i32 n)).setCell ⟨w.heap.size, 6, none⟩ (.int .i64 (setReg 0 r1 (opItm op)).form)).setCell ⟨w.heap.size, 7, none⟩ (.slice none 0 0)).setCell ⟨w.heap.size, 8, none⟩ (.int .u32 (setReg 0 r1 (opItm op)).e.const)).setCell ⟨w.heap.size, 9, none⟩ (.int .i64 (setReg 0 r1 (opItm op)).n) = w9 at s1 s2 hB9 ⊢
      have k := fun j => cell_blockT s1 j
      have k0 := (k 0).trans rfl
      have k1 := (k 1).trans rfl
      have k2 := (k 2).trans rfl
      have k3 := (k 3).trans rfl
      have k4 := (k 4).trans rfl
      have k5 := (k 5).trans rfl
      have k6 := (k 6).trans rfl
      have k7 := (k 7).trans rfl
      have k8 := (k 8).trans rfl
      have k9 := (k 9).trans rfl
      refine bodyPost_ret (by simp [results, Tryz.results54, go_sem, k0, k1, k2, k3, k4, k5, k6, k7, k8, k9]; try rfl) rfl ?_
      exact ⟨hB9, none, 0, 0, rfl, rfl, TmLies.nil _ _⟩


end Go.Proofs.YtlkmegchaeokgaaGreatDoor
namespace Go.Proofs.YtlkmegchaeokgaaGreatDoor
open Go.ChangeShapes Go.WideShapes Go.ChangeAt Go.RowKit
set_option linter.unusedVariables false
set_option maxRecDepth 100000

theorem six_setT {T : TypeId} {w : World} {g : Nat} {c0 c1 c2 c3 c4 c5 : Value} (h : w.heap[g]? = some (.cells #[c0, c1, c2, c3, c4, c5] T (0, 0))) (v0 v1 v2 v3 v4 v5 : Value) :
    ((((((w.setCell ⟨g, 0, none⟩ v0).setCell ⟨g, 1, none⟩ v1).setCell ⟨g, 2, none⟩ v2).setCell ⟨g, 3, none⟩ v3).setCell ⟨g, 4, none⟩ v4).setCell ⟨g, 5, none⟩ v5).heap[g]? = some (.cells #[v0, v1, v2, v3, v4, v5] T (0, 0)) ∧ w.grownBy ((((((w.setCell ⟨g, 0, none⟩ v0).setCell ⟨g, 1, none⟩ v1).setCell ⟨g, 2, none⟩ v2).setCell ⟨g, 3, none⟩ v3).setCell ⟨g, 4, none⟩ v4).setCell ⟨g, 5, none⟩ v5) (some g) := by
  obtain ⟨a0, b0⟩ := row_set h 0 v0
  obtain ⟨a1, b1⟩ := row_set a0 1 v1
  obtain ⟨a2, b2⟩ := row_set a1 2 v2
  obtain ⟨a3, b3⟩ := row_set a2 3 v3
  obtain ⟨a4, b4⟩ := row_set a3 4 v4
  obtain ⟨a5, b5⟩ := row_set a4 5 v5
  refine ⟨?_, grown_trans (grown_trans (grown_trans (grown_trans (grown_trans b0 b1) b2) b3) b4) b5⟩
  rw [a5]
  rfl

/-- what the document's Read leaves: of what is said the numbers of cells alone -/
def RThOut (w' : World) (R : Except Int Thg) (e : Ending) : Prop :=
  match R with
  | .error k => e = .returned (.tuple #[thgZ, .int .i64 k])
  | .ok t => ∃ q, e = .returned (.tuple #[.agg #[.int .i64 1, .slice (some ⟨q, 0, none⟩) 1 1, .string ⟨#[]⟩, .slice none 0 0, .int .u32 0, .int .i64 0], .int .i64 0])

/-- while the document's Read runs -/
structure RRSt (w : World) (lb s : List UInt8) (a : Option Addr) (n c : Nat) (args : List (List Tok)) (wr : World) : Prop where
  bel : Below w.heap.size w wr
  line : wr.heap[w.heap.size]? = some (.cells #[.string (str lb), .string (str s), .slice a n c] 71 (0, 0))
  res : wr.heap[w.heap.size + 1]? = some (.cells zero6 38 (0, 0))
  ins : RArgsIn w.heap.size wr a args

theorem RRSt.below {w : World} {lb s : List UInt8} {a : Option Addr} {n c : Nat} {args : List (List Tok)} {wr w' : World} (h : RRSt w lb s a n c args wr) (hb : Below wr.heap.size wr w') : RRSt w lb s a n c args w' :=
  ⟨h.bel.trans (hb.mono h.bel.size), by rw [hb.block _ (blk_lt h.line)]; exact h.line, by rw [hb.block _ (blk_lt h.res)]; exact h.res, h.ins.below (hb.mono h.bel.size)⟩

theorem rrst_new {w : World} {a : Option Addr} {args : List (List Tok)} (hA : RArgsIn w.heap.size w a args) (lb s : List UInt8) (n c : Nat) : RRSt w lb s a n c args ((w.alloc (.cells #[.string (str lb), .string (str s), .slice a n c] 71)).alloc (.cells zero6 38)) := by
  have hs : (w.alloc (.cells #[.string (str lb), .string (str s), .slice a n c] 71)).heap.size = w.heap.size + 1 := by simp
  have hB : Below w.heap.size w ((w.alloc (.cells #[.string (str lb), .string (str s), .slice a n c] 71)).alloc (.cells zero6 38)) := (below_alloc w _).alloc (by simp) _
  refine ⟨hB, ?_, ?_, hA.below hB⟩
  · rw [Below.heap_alloc _ _ _ (by omega)]
    exact heap_alloc_new w _
  · rw [← hs]
    exact heap_alloc_new _ _

theorem rargs_mono {B B' : Nat} {w : World} {a : Option Addr} {acc : List (List Tok)} (h : RArgsIn B w a acc) (h1 : B ≤ B') (h2 : B' ≤ w.heap.size) : RArgsIn B' w a acc := by
  refine ⟨?_, h2⟩
  rcases h.outer with h3 | ⟨G, ha, hG, hl⟩
  · exact .inl h3
  · refine .inr ⟨G, ha, by omega, fun i xs hi => ?_⟩
    obtain ⟨a', c', k1, k2, k3⟩ := hl i xs hi
    exact ⟨a', c', k1, k2, fun y hy => by have := k3 y hy; omega⟩

set_option maxHeartbeats 1000000 in
theorem refRead_op (lb s : List UInt8) (hf : 1 ≤ findN s) (hf2 : findN s ≤ 43) (hs0 : s ≠ []) (a : Option Addr) (c : Nat) (args : List (List Tok)) (sec : Int) (w : World) (hA : RArgsIn w.heap.size w a args) (hlen : args.length = (wantsF (shapeN (findN s))).length) (hk : ∀ x, opF (wantsF (shapeN (findN s))) args 0 (opItm (findN s)) = .ok x → x.kind = 2)
    (hc : ∀ w1, RArgsIn w1.heap.size w1 a args → Calls Tryz.prog 54 #[.int .i64 (findN s), .slice a args.length c] w1 fun e w' => CodeOut w1 w' (opF (wantsF (shapeN (findN s))) args 0 (opItm (findN s))) e) :
    Calls Tryz.prog 29 #[.agg #[.string (str lb), .string (str s), .slice a args.length c], .int .i64 sec] w fun e w' => Below w.heap.size w w' ∧ RThOut w' (opThg s args sec) e := by
  have hne : ((str s).toList == []) = false := by rw [str_toList]; exact beq_false_of_ne hs0
  have hnm : nm (str s) = s := by simp [nm, str]
  have hfind := fun w1 => refFind_any (str s) w1
  rw [hnm] at hfind
  have hF : opThg s args sec = match opF (wantsF (shapeN (findN s))) args 0 (opItm (findN s)) with | .error k => .error k | .ok x => if standsB x.kind sec = true then .ok ⟨1, [x], [], linE, 0⟩ else .error 21 := by unfold opThg; rw [if_neg (by simp [hlen])]; try rfl
  rw [hF]
  have hoe := @opF_err (wantsF (shapeN (findN s))) args 0 (opItm (findN s))
  clear hF hnm hlen
  generalize opF (wantsF (shapeN (findN s))) args 0 (opItm (findN s)) = R at hc hk hoe ⊢
  generalize findN s = N at hf hf2 hfind hc
  have hgt : (0 : Int) < N := by omega
  have hst0 := rrst_new hA lb s args.length c
  generalize args.length = n0 at hc hst0 ⊢
  have hst : Hid (∀ w1, Below ((w.alloc (.cells #[.string (str lb), .string (str s), .slice a n0 c] 71)).alloc (.cells zero6 38)).heap.size ((w.alloc (.cells #[.string (str lb), .string (str s), .slice a n0 c] 71)).alloc (.cells zero6 38)) w1 → RRSt w lb s a n0 c args w1) := fun w1 h1 => hst0.below h1
  have hcode : Hid (∀ w1, RRSt w lb s a n0 c args w1 → Calls Tryz.prog 54 #[.int .i64 N, .slice a n0 c] w1 fun e w' => CodeOut w1 w' R e) := fun w1 h1 => hc w1 (rargs_mono h1.ins h1.bel.size (Nat.le_refl _))
  replace hfind := Hid.intro hfind
  clear hst0 hc hA
  cases R with
  | error k =>
    have hk0 : (k == 0) = false := by rcases hoe rfl with rfl | rfl <;> rfl
    clear hoe hk
    go_enter Tryz.func29, Tryz.ntmps29
    go_upto_region 10 with (first | (go_at_call 53; (with_reducible refine (hfind.out _).mono ?_); rintro e w1 ⟨rfl, hb1⟩; have hS1 := Hid.intro (hst.out w1 hb1); have l1 := (cell_blockT hS1.out.line 1).trans rfl; have l2 := (cell_blockT hS1.out.line 2).trans rfl) | (go_at_call 54; (with_reducible refine (hcode.out w1 hS1.out).mono ?_); rintro e w2 ⟨hb2, rfl⟩; have hS2 := Hid.intro ((hS1.out.below hb2).below (below_alloc w2 (.cells (itmCells itmE (.slice none 0 0)) 33))); have r0 := (cell_blockT hS2.out.res 0).trans rfl; have r1 := (cell_blockT hS2.out.res 1).trans rfl; have r2 := (cell_blockT hS2.out.res 2).trans rfl; have r3 := (cell_blockT hS2.out.res 3).trans rfl; have r4 := (cell_blockT hS2.out.res 4).trans rfl; have r5 := (cell_blockT hS2.out.res 5).trans rfl; have rf := fun j => frozen_of_row (w2.alloc (.cells (itmCells itmE (.slice none 0 0)) 33)) (w.heap.size + 1) j _ 38 hS2.out.res))
    all_goals first | omega | skip
    have hS3 := hS2.out
    clear r0 r1 r2 r3 r4 r5 rf
    generalize (w2.alloc (.cells (itmCells itmE (.slice none 0 0)) 33)) = w3 at hS3 ⊢
    replace hS2 := Hid.intro hS3
    have r0 := (cell_blockT hS2.out.res 0).trans rfl
    have r1 := (cell_blockT hS2.out.res 1).trans rfl
    have r2 := (cell_blockT hS2.out.res 2).trans rfl
    have r3 := (cell_blockT hS2.out.res 3).trans rfl
    have r4 := (cell_blockT hS2.out.res 4).trans rfl
    have r5 := (cell_blockT hS2.out.res 5).trans rfl
    have rf := fun j => frozen_of_row w3 (w.heap.size + 1) j _ 38 hS2.out.res
    go_wp2
    all_goals first | omega | skip
    have hsz := hS2.out.bel.size
    have hrl := blk_lt hS2.out.res
    obtain ⟨s1, s2⟩ := six_setT hS2.out.res (.int .i64 0) (.slice none 0 0) (.string ⟨#[]⟩) (.slice none 0 0) (.int .u32 0) (.int .i64 0)
    have hB9 := (hS2.out.bel).grown s2 (by omega) (fun j hj => by cases hj; omega)
    generalize (((((w3.setCell ⟨w.heap.size + 1, 0, none⟩ (.int .i64 0)).setCell ⟨w.heap.size + 1, 1, none⟩ (.slice none 0 0)).setCell ⟨w.heap.size + 1, 2, none⟩ (.string ⟨#[]⟩)).setCell ⟨w.heap.size + 1, 3, none⟩ (.slice none 0 0)).setCell ⟨w.heap.size + 1, 4, none⟩ (.int .u32 0)).setCell ⟨w.heap.size + 1, 5, none⟩ (.int .i64 0) = w9 at s1 s2 hB9 ⊢
    have k := fun j => cell_blockT s1 j
    have k0 := (k 0).trans rfl
    have k1 := (k 1).trans rfl
    have k2 := (k 2).trans rfl
    have k3 := (k 3).trans rfl
    have k4 := (k 4).trans rfl
    have k5 := (k 5).trans rfl
    refine bodyPost_ret (by simp [results, Tryz.results29, go_sem, k0, k1, k2, k3, k4, k5]; try rfl) rfl ?_
    exact ⟨hB9, rfl⟩
  | ok x =>
    have hxk := hk x rfl
    clear hoe hk
    by_cases hsec : sec = 1
    · have hnst : standsB x.kind sec = false := by rw [hxk, hsec]; rfl
      simp only
      rw [if_neg (by rw [hnst]; decide)]
      have hsc : (sec == 1) = true := by simp [hsec]
      clear hxk hnst
      go_enter Tryz.func29, Tryz.ntmps29
      go_upto_region 10 with (first | (go_at_call 53; (with_reducible refine (hfind.out _).mono ?_); rintro e w1 ⟨rfl, hb1⟩; have hS1 := Hid.intro (hst.out w1 hb1); have l1 := (cell_blockT hS1.out.line 1).trans rfl; have l2 := (cell_blockT hS1.out.line 2).trans rfl) | (go_at_call 54; (with_reducible refine (hcode.out w1 hS1.out).mono ?_); rintro e w2 ⟨hb2, va, n, vc, rfl, hnn, _⟩; clear hnn; have hS2 := Hid.intro ((hS1.out.below hb2).below (below_alloc w2 (.cells (itmCells x (.slice va n vc)) 33))); have r0 := (cell_blockT hS2.out.res 0).trans rfl; have r1 := (cell_blockT hS2.out.res 1).trans rfl; have r2 := (cell_blockT hS2.out.res 2).trans rfl; have r3 := (cell_blockT hS2.out.res 3).trans rfl; have r4 := (cell_blockT hS2.out.res 4).trans rfl; have r5 := (cell_blockT hS2.out.res 5).trans rfl; have rf := fun j => frozen_of_row (w2.alloc (.cells (itmCells x (.slice va n vc)) 33)) (w.heap.size + 1) j _ 38 hS2.out.res))
      all_goals first | omega | skip
      have hS3 := hS2.out
      clear r0 r1 r2 r3 r4 r5 rf
      generalize (w2.alloc (.cells (itmCells x (.slice va n vc)) 33)) = w3 at hS3 ⊢
      replace hS2 := Hid.intro hS3
      have r0 := (cell_blockT hS2.out.res 0).trans rfl
      have r1 := (cell_blockT hS2.out.res 1).trans rfl
      have r2 := (cell_blockT hS2.out.res 2).trans rfl
      have r3 := (cell_blockT hS2.out.res 3).trans rfl
      have r4 := (cell_blockT hS2.out.res 4).trans rfl
      have r5 := (cell_blockT hS2.out.res 5).trans rfl
      have rf := fun j => frozen_of_row w3 (w.heap.size + 1) j _ 38 hS2.out.res
      go_wp2
      all_goals first | omega | skip
      have hsz := hS2.out.bel.size
      have hrl := blk_lt hS2.out.res
      obtain ⟨s1, s2⟩ := six_setT hS2.out.res (.int .i64 0) (.slice none 0 0) (.string ⟨#[]⟩) (.slice none 0 0) (.int .u32 0) (.int .i64 0)
      have hB9 := (hS2.out.bel).grown s2 (by omega) (fun j hj => by cases hj; omega)
      generalize (((((w3.setCell ⟨w.heap.size + 1, 0, none⟩ (.int .i64 0)).setCell ⟨w.heap.size + 1, 1, none⟩ (.slice none 0 0)).setCell ⟨w.heap.size + 1, 2, none⟩ (.string ⟨#[]⟩)).setCell ⟨w.heap.size + 1, 3, none⟩ (.slice none 0 0)).setCell ⟨w.heap.size + 1, 4, none⟩ (.int .u32 0)).setCell ⟨w.heap.size + 1, 5, none⟩ (.int .i64 0) = w9 at s1 s2 hB9 ⊢
      have k := fun j => cell_blockT s1 j
      have k0 := (k 0).trans rfl
      have k1 := (k 1).trans rfl
      have k2 := (k 2).trans rfl
      have k3 := (k 3).trans rfl
      have k4 := (k 4).trans rfl
      have k5 := (k 5).trans rfl
      refine bodyPost_ret (by simp [results, Tryz.results29, go_sem, k0, k1, k2, k3, k4, k5]; try rfl) rfl ?_
      exact ⟨hB9, rfl⟩
    · have hnst : standsB x.kind sec = true := by rw [hxk]; simp [standsB, hsec]
      simp only
      rw [if_pos hnst]
      have hsc : (sec == 1) = false := by simp [hsec]
      clear hxk hnst
      go_enter Tryz.func29, Tryz.ntmps29
      go_upto_region 11 with (first | (go_at_call 53; (with_reducible refine (hfind.out _).mono ?_); rintro e w1 ⟨rfl, hb1⟩; have hS1 := Hid.intro (hst.out w1 hb1); have l1 := (cell_blockT hS1.out.line 1).trans rfl; have l2 := (cell_blockT hS1.out.line 2).trans rfl) | (go_at_call 54; (with_reducible refine (hcode.out w1 hS1.out).mono ?_); rintro e w2 ⟨hb2, va, n, vc, rfl, hnn, _⟩; clear hnn; have hS2 := Hid.intro ((hS1.out.below hb2).below (below_alloc w2 (.cells (itmCells x (.slice va n vc)) 33))); have r0 := (cell_blockT hS2.out.res 0).trans rfl; have r1 := (cell_blockT hS2.out.res 1).trans rfl; have r2 := (cell_blockT hS2.out.res 2).trans rfl; have r3 := (cell_blockT hS2.out.res 3).trans rfl; have r4 := (cell_blockT hS2.out.res 4).trans rfl; have r5 := (cell_blockT hS2.out.res 5).trans rfl; have rf := fun j => frozen_of_row (w2.alloc (.cells (itmCells x (.slice va n vc)) 33)) (w.heap.size + 1) j _ 38 hS2.out.res))
      all_goals first | omega | skip
      have hS3 := hS2.out
      have hrow := heap_alloc_new w2 (.cells (itmCells x (.slice va n vc)) 33)
      obtain ⟨p, hp⟩ : ∃ p, p = w2.heap.size := ⟨_, rfl⟩
      rw [← hp] at hrow ⊢
      clear r0 r1 r2 r3 r4 r5 rf hp
      generalize (w2.alloc (.cells (itmCells x (.slice va n vc)) 33)) = w3 at hS3 hrow ⊢
      replace hS2 := Hid.intro hS3
      obtain ⟨q0, q1, q2, q3, q4, q5, q6, q7, q8, q9⟩ := itAt_row hrow
      have hal := Hid.intro (fun o => hS2.out.below (below_alloc w3 o))
      have r0 := fun o => (cell_blockT (hal.out o).res 0).trans rfl
      have r1 := fun o => (cell_blockT (hal.out o).res 1).trans rfl
      have r2 := fun o => (cell_blockT (hal.out o).res 2).trans rfl
      have r3 := fun o => (cell_blockT (hal.out o).res 3).trans rfl
      have r4 := fun o => (cell_blockT (hal.out o).res 4).trans rfl
      have r5 := fun o => (cell_blockT (hal.out o).res 5).trans rfl
      have rf := fun o j => frozen_of_row (w3.alloc o) (w.heap.size + 1) j _ 38 (hal.out o).res
      clear hrow
      go_wp2
      all_goals first | omega | skip
      have hal2 := hal.out (.cells (itmCells x (.slice va n vc)) 33)
      have hsz := hal2.bel.size
      have hrl := blk_lt hal2.res
      obtain ⟨s1, s2⟩ := six_setT hal2.res (.int .i64 1) (.slice (some ⟨w3.heap.size, 0, none⟩) 1 1) (.string ⟨#[]⟩) (.slice none 0 0) (.int .u32 0) (.int .i64 0)
      have hB9 := (hal2.bel).grown s2 (by omega) (fun j hj => by cases hj; omega)
      generalize ((((((w3.alloc (.cells (itmCells x (.slice va n vc)) 33)).setCell ⟨w.heap.size + 1, 0, none⟩ (.int .i64 1)).setCell ⟨w.heap.size + 1, 1, none⟩ (.slice (some ⟨w3.heap.size, 0, none⟩) 1 1)).setCell ⟨w.heap.size + 1, 2, none⟩ (.string ⟨#[]⟩)).setCell ⟨w.heap.size + 1, 3, none⟩ (.slice none 0 0)).setCell ⟨w.heap.size + 1, 4, none⟩ (.int .u32 0)).setCell ⟨w.heap.size + 1, 5, none⟩ (.int .i64 0) = w9 at s1 s2 hB9 ⊢
      have k := fun j => cell_blockT s1 j
      have k0 := (k 0).trans rfl
      have k1 := (k 1).trans rfl
      have k2 := (k 2).trans rfl
      have k3 := (k 3).trans rfl
      have k4 := (k 4).trans rfl
      have k5 := (k 5).trans rfl
      refine bodyPost_ret (by simp [results, Tryz.results29, go_sem, k0, k1, k2, k3, k4, k5]; try rfl) rfl ?_
      exact ⟨hB9, _, rfl⟩

end Go.Proofs.YtlkmegchaeokgaaGreatDoor
