/- The document's code, by shapes. -/
import Derived.Test.YtlkmegchaeokgaaGreatDoorR5
import Derived.Test.YtlkmegchaeokgaaGreatDoorRefParse
/- The document's code: its state, whatever the shape. -/
namespace Go.Proofs.YtlkmegchaeokgaaGreatDoor
open Go.ChangeShapes Go.WideShapes Go.ChangeAt Go.RowKit
set_option linter.unusedVariables false
set_option maxRecDepth 100000
structure CS2 (w : World) (a : Option Addr) (args : List (List Tok)) (x : Itm) (va : Option Addr) (n vc p : Nat) (wr : World) : Prop where
 bel : Below w.heap.size w wr
 res : wr.heap[w.heap.size]? = some (.cells (itmCells itmE (.slice none 0 0)) 33 (0, 0))
 row : wr.heap[p]? = some (.cells (itmCells x (.slice va n vc)) 33 (0, 0))
 lo : w.heap.size < p
 ins : RArgsIn w.heap.size wr a args
 own : wr.ownsRow (p + 1) 61 2 (.slice va n vc) x.e.terms.length (rowT x.e.terms)
theorem cs2_new {w w1 : World} {a : Option Addr} {args : List (List Tok)} (hA : RArgsIn w.heap.size w a args) (op : Int) (hb : Below (w.alloc (.cells (itmCells itmE (.slice none 0 0)) 33)).heap.size (w.alloc (.cells (itmCells itmE (.slice none 0 0)) 33)) w1) : CS2 w a args (opItm op) none 0 0 w1.heap.size (w1.alloc (.cells #[.int .i64 2, .string ⟨#[]⟩, .int .i64 op, .int .i64 0, .int .i64 0, .int .i32 0, .int .i64 0, .slice none 0 0, .int .u32 0, .int .i64 0] 33)) := by
 obtain ⟨h1, h2, h3, h4, h5⟩ := cst_new hA (opItm op) hb
 exact ⟨h1, h2, h3, h4, h5, World.ownsRow_nil _ _ _ _⟩
theorem CS2.put {w : World} {a : Option Addr} {args : List (List Tok)} {x : Itm} {va : Option Addr} {n vc p : Nat} {wr : World} (h : CS2 w a args x va n vc p wr) (x' : Itm) (j : Nat) (v : Value) (he : x'.e = x.e) (hj : (itmCells x (.slice va n vc)).setIfInBounds j v = itmCells x' (.slice va n vc)) : CS2 w a args x' va n vc p (wr.setCell ⟨p, j, none⟩ v) := by
 obtain ⟨s1, s2⟩ := row_set h.row j v
 have hB : Below w.heap.size wr (wr.setCell ⟨p, j, none⟩ v) := below_of_grown s2 (Nat.le_of_lt h.lo) h.bel.size
 exact ⟨h.bel.trans hB, by rw [s2.block _ (blk_lt h.res) (by have := h.lo; simp; omega)]; exact h.res, by rw [s1, hj], h.lo, h.ins.below hB, by rw [he]; exact own_low h.own s2 (by omega)⟩
theorem CS2.below {w : World} {a : Option Addr} {args : List (List Tok)} {x : Itm} {va : Option Addr} {n vc p : Nat} {wr w' : World} (h : CS2 w a args x va n vc p wr) (hb : Below wr.heap.size wr w') : CS2 w a args x va n vc p w' :=
 ⟨h.bel.trans (hb.mono h.bel.size), by rw [hb.block _ (blk_lt h.res)]; exact h.res, by rw [hb.block _ (blk_lt h.row)]; exact h.row, h.lo, h.ins.below (hb.mono h.bel.size), own_below' h.own hb⟩
theorem CS2.putE {w : World} {a : Option Addr} {args : List (List Tok)} {x : Itm} {va : Option Addr} {n vc p : Nat} {wr w1 : World} (h : CS2 w a args x va n vc p wr) (hb : Below wr.heap.size wr w1) (y : Lin) (vb : Option Addr) (m vd : Nat) (ho : w1.ownsRow wr.heap.size 61 2 (.slice vb m vd) y.terms.length (rowT y.terms)) :
  CS2 w a args { x with e := y } vb m vd p ((w1.setCell ⟨p, 7, none⟩ (.slice vb m vd)).setCell ⟨p, 8, none⟩ (.int .u32 y.const)) := by
 have hlt := blk_lt h.row
 have h1 := h.below hb
 obtain ⟨s1, s2⟩ := row_set h1.row 7 (.slice vb m vd)
 obtain ⟨t1, t2⟩ := row_set s1 8 (.int .u32 y.const)
 have hg := grown_trans s2 t2
 have hB : Below w.heap.size w1 ((w1.setCell ⟨p, 7, none⟩ (.slice vb m vd)).setCell ⟨p, 8, none⟩ (.int .u32 y.const)) := below_of_grown hg (Nat.le_of_lt h.lo) h1.bel.size
 exact ⟨h1.bel.trans hB, by rw [hg.block _ (blk_lt h1.res) (by have := h.lo; simp; omega)]; exact h1.res, t1, h.lo, h1.ins.below hB, own_low (own_weaken ho (by omega)) hg (by omega)⟩
theorem rargs_at {B : Nat} {w : World} {G : Nat} {args : List (List Tok)} (h : RArgsIn B w (some ⟨G, 0, none⟩) args) {i : Nat} {xs : List Tok} (hi : args[i]? = some xs) : ∃ a' c', w.cell? ⟨G, i, none⟩ = some (.slice a' xs.length c') /\ RToks w a' xs /\ (∀ y, a' = some y -> y.block < B) /\ xs.length <= c' := by
 rcases h.outer with h3 | ⟨G', ha, hG, hl⟩
 ·rw [h3] at hi; simp at hi
 ·cases ha; exact hl i xs hi
theorem ten_read {T : TypeId} {w : World} {g : Nat} {v0 v1 v2 v3 v4 v5 v6 v7 v8 v9 : Value} (h : w.heap[g]? = some (.cells #[v0, v1, v2, v3, v4, v5, v6, v7, v8, v9] T (0, 0))) : w.cell? ⟨g, 0, none⟩ = some v0 /\ w.cell? ⟨g, 1, none⟩ = some v1 /\ w.cell? ⟨g, 2, none⟩ = some v2 /\ w.cell? ⟨g, 3, none⟩ = some v3 /\ w.cell? ⟨g, 4, none⟩ = some v4 /\ w.cell? ⟨g, 5, none⟩ = some v5 /\ w.cell? ⟨g, 6, none⟩ = some v6 /\ w.cell? ⟨g, 7, none⟩ = some v7 /\ w.cell? ⟨g, 8, none⟩ = some v8 /\ w.cell? ⟨g, 9, none⟩ = some v9 :=
 ⟨(cell_blockT h 0).trans rfl, (cell_blockT h 1).trans rfl, (cell_blockT h 2).trans rfl, (cell_blockT h 3).trans rfl, (cell_blockT h 4).trans rfl, (cell_blockT h 5).trans rfl, (cell_blockT h 6).trans rfl, (cell_blockT h 7).trans rfl, (cell_blockT h 8).trans rfl, (cell_blockT h 9).trans rfl⟩
def RegW (R : Option Int) (Nn E : Int) : Prop := match R with | none => Nn = 0 /\ E = 20 | some r => Nn = r /\ E = 0
theorem reg_w (arg : List Tok) (z : Bool) : ∃ Nn E, refRegV (regF arg z) = .tuple #[.int .i64 Nn, .int .i64 E] /\ RegW (regF arg z) Nn E := by
 cases regF arg z with
 | none => exact ⟨0, 20, rfl, rfl, rfl⟩
 | some r => exact ⟨r, 0, rfl, rfl, rfl⟩
def ConW (R : Except Int Int) (Nn E : Int) : Prop := match R with | .error k => E = k | .ok n => Nn = n /\ E = 0
theorem con_w (R : Except Int Int) : ∃ Nn E, numV R = .tuple #[.int .i64 Nn, .int .i64 E] /\ ConW R Nn E := by
 cases R with
 | error k => exact ⟨0, k, rfl, rfl⟩
 | ok n => exact ⟨n, 0, rfl, rfl, rfl⟩
theorem regR (args : List (List Tok)) (G : Nat) (i : Nat) (xs : List Tok) (z : Bool) (wr : World) (B : Nat) (hi : args[i]? = some xs) (hR : RArgsIn B wr (some ⟨G, 0, none⟩) args) : ∃ a' c', wr.cell? ⟨G, i, none⟩ = some (.slice a' xs.length c') /\ ∃ Nn E, RegW (regF xs z) Nn E /\ Calls Tryz.prog 82 #[.slice a' xs.length c', .bool z] wr fun e w' => e = .returned (.tuple #[.int .i64 Nn, .int .i64 E]) /\ w' = wr := by
 obtain ⟨a', c', k1, k2, _⟩ := rargs_at hR hi
 obtain ⟨Nn, E, h1, h2⟩ := reg_w xs z
 have := refReg_any a' c' xs z wr k2.lies k2.short
 rw [h1] at this
 exact ⟨a', c', k1, Nn, E, h2, this⟩
theorem conR (args : List (List Tok)) (G : Nat) (i : Nat) (xs : List Tok) (lo hi : Int) (wr : World) (B : Nat) (hi' : args[i]? = some xs) (hR : RArgsIn B wr (some ⟨G, 0, none⟩) args) : ∃ a' c', wr.cell? ⟨G, i, none⟩ = some (.slice a' xs.length c') /\ ∃ Nn E, ConW (rconF xs lo hi) Nn E /\ Calls Tryz.prog 83 #[.slice a' xs.length c', .int .i64 lo, .int .i64 hi] wr fun e w' => e = .returned (.tuple #[.int .i64 Nn, .int .i64 E]) /\ Below wr.heap.size wr w' := by
 obtain ⟨a', c', k1, k2, _⟩ := rargs_at hR hi'
 obtain ⟨Nn, E, h1, h2⟩ := con_w (rconF xs lo hi)
 have := refConst_any a' c' xs lo hi wr k2
 rw [h1] at this
 exact ⟨a', c', k1, Nn, E, h2, this⟩
theorem parseW (a : Option Addr) (c : Nat) (xs : List Tok) (wr : World) (hT : RToks wr a xs) : Calls Tryz.prog 84 #[.slice a xs.length c] wr fun e w' => Below wr.heap.size wr w' /\ ∃ y vb m vd, e = .returned (.tuple #[linV (.slice vb m vd) y.const, .int .i64 (whyOf (parseF xs))]) /\ w'.ownsRow wr.heap.size 61 2 (.slice vb m vd) y.terms.length (rowT y.terms) /\ (∀ x', parseF xs = .ok x' -> x' = y) := by
 refine (refParse_any a c xs wr hT).mono ?_
 rintro e w' ⟨hb, hm⟩
 refine ⟨hb, ?_⟩
 cases hp : parseF xs with
 | error k =>
  rw [hp] at hm
  simp only at hm
  subst hm
  exact ⟨linE, none, 0, 0, rfl, ⟨by simp [linE, rowT], .inl ⟨rfl, rfl⟩⟩, fun x' h => by cases h⟩
 | ok y =>
  rw [hp] at hm
  obtain ⟨va, n, vc, rfl, ho⟩ := hm
  exact ⟨y, va, n, vc, rfl, ho, fun x' h => by cases h; rfl⟩
theorem RToks.head2 {w : World} {a : Option Addr} {t : Tok} {r : List Tok} (h : RToks w a (t :: r)) : ∃ g o, a = some ⟨g, o, none⟩ /\ w.cell? ⟨g, o, none⟩ = some (.int .i64 t.kind) /\ w.cell? ⟨g, o + 1, none⟩ = some (.string (str t.text)) := by
 rcases h.lies with h1 | ⟨g, o, rfl, hl⟩
 ·cases h1
 ·obtain ⟨q0, q1, _, _⟩ := hl 0 t rfl
  simp only [Nat.zero_mul, Nat.add_zero] at q0 q1
  exact ⟨g, o, rfl, q0, q1⟩
theorem RToks.tail2 {w : World} {g o : Nat} {t : Tok} {r : List Tok} (h : RToks w (some ⟨g, o, none⟩) (t :: r)) : (r = [] -> RToks w (some ⟨g, o, none⟩) r) /\ RToks w (some ⟨g, o + 4, none⟩) r := by
 have hf := h.few
 simp only [List.length_cons] at hf
 refine ⟨fun hr => ⟨.inl hr, h.old, by omega, fun u hu => h.short u (List.mem_cons_of_mem _ hu), fun u hu => h.nums u (List.mem_cons_of_mem _ hu)⟩, ⟨?_, fun x hx => by cases hx; have := h.old _ rfl; exact this, by omega, fun u hu => h.short u (List.mem_cons_of_mem _ hu), fun u hu => h.nums u (List.mem_cons_of_mem _ hu)⟩⟩
 rcases h.lies with h1 | ⟨g', o', ha, hl⟩
 ·cases h1
 ·cases ha
  refine .inr ⟨g, o + 4, rfl, fun i x hi => ?_⟩
  have := hl (i + 1) x hi
  rw [show o + (i + 1) * 4 = o + 4 + i * 4 by omega] at this
  exact this
theorem rcon_err {arg : List Tok} {lo hi k : Int} (h : rconF arg lo hi = .error k) : k = 20 ∨ k = 21 := by
 unfold rconF at h
 split at h
 ·rename_i hc; cases h; exact constF_err hc
 ·split at h
  ·cases h
  ·cases h; exact .inr rfl
theorem rcon_range {arg : List Tok} {lo hi n : Int} (h : rconF arg lo hi = .ok n) : (-2147483648 <= n /\ n <= 2147483647) /\ lo <= n /\ n <= hi := by
 unfold rconF at h
 split at h
 ·cases h
 ·rename_i m hc
  split at h
  ·rename_i hm; cases h; exact ⟨constF_range hc, hm⟩
  ·cases h
theorem opF_own (x1 : List Tok) (x : Itm) : opF (wantsF 9) [x1] 0 x = match constF x1 with | .error k => .error k | .ok n => if checkN x.op x.a x.b n x.form = 0 then .ok { x with m := n } else .error 21 := by
 have e0 : atI (bs (str (wantsF 9))) 0 = 110 := rfl
 have h1 : ∀ (arg : List Tok) (p : Nat) (y : Itm), stepF 110 p arg y = match constF arg with | .error k => .error k | .ok n => if checkN y.op y.a y.b n y.form = 0 then .ok { y with m := n } else .error 21 := fun arg p y => by unfold stepF; rw [if_neg (by omega), if_pos rfl]; try rfl
 rw [opF, e0, h1]
 cases constF x1 with
 | error k => rfl
 | ok n =>
  simp only
  by_cases hc : checkN x.op x.a x.b n x.form = 0
  ·rw [if_pos hc]; rfl
  ·rw [if_neg hc]
theorem chk_9 (op : Int) (hop : 1 <= op /\ op <= 43) (hS : shapeN op = 9) (m : Int) : checkN op 0 0 m 0 = 0 <-> (0 <= m /\ m <= 255) := by
 unfold checkN
 rw [if_neg (by omega), hS]
 simp [regB, numB, spansB, aMax, bMax, nMin, nMax, shT]
theorem own_bad {x1 : List Tok} {k op : Int} (hop : 1 <= op /\ op <= 43) (hS : shapeN op = 9) (h : rconF x1 0 255 = .error k) : opF (wantsF 9) [x1] 0 (opItm op) = .error k := by
 rw [opF_own]
 unfold rconF at h
 cases hc : constF x1 with
 | error e => rw [hc] at h; simpa using h
 | ok n =>
  rw [hc] at h
  simp only at h ⊢
  split at h
  ·cases h
  ·rename_i hn
   have hne : ¬ checkN (opItm op).op (opItm op).a (opItm op).b n (opItm op).form = 0 := fun e => hn ((chk_9 op hop hS n).1 e)
   rw [if_neg hne]
   simpa using h
theorem own_good {x1 : List Tok} {n op : Int} (hop : 1 <= op /\ op <= 43) (hS : shapeN op = 9) (h : rconF x1 0 255 = .ok n) : opF (wantsF 9) [x1] 0 (opItm op) = .ok { opItm op with m := n } := by
 rw [opF_own]
 unfold rconF at h
 cases hc : constF x1 with
 | error e => rw [hc] at h; cases h
 | ok n' =>
  rw [hc] at h
  simp only at h ⊢
  split at h
  ·rename_i hn
   cases h
   have hne : checkN (opItm op).op (opItm op).a (opItm op).b n (opItm op).form = 0 := (chk_9 op hop hS n).2 hn
   rw [if_pos hne]
  ·cases h
theorem opF_small (x1 x2 : List Tok) (x : Itm) : opF (wantsF 8) [x1, x2] 0 x = match regF x1 false with | none => .error 20 | some r1 => match constF x2 with | .error k => .error k | .ok n => if checkN x.op r1 x.b n x.form = 0 then .ok { setReg 0 r1 x with m := n } else .error 21 := by
 have h0 : ∀ (arg : List Tok) (p : Nat) (y : Itm), stepF 114 p arg y = match regF arg false with | none => .error 20 | some n => .ok (setReg p n y) := fun arg p y => by unfold stepF; rw [if_pos (.inl rfl)]; try rfl
 have h1 : ∀ (arg : List Tok) (p : Nat) (y : Itm), stepF 110 p arg y = match constF arg with | .error k => .error k | .ok n => if checkN y.op y.a y.b n y.form = 0 then .ok { y with m := n } else .error 21 := fun arg p y => by unfold stepF; rw [if_neg (by omega), if_pos rfl]; try rfl
 have e0 : atI (bs (str (wantsF 8))) 0 = 114 := rfl
 have e1 : atI (bs (str (wantsF 8))) (0 + 1) = 110 := rfl
 rw [opF, e0, h0]
 cases regF x1 false with
 | none => rfl
 | some r1 =>
  simp only
  rw [opF, e1, h1]
  cases constF x2 with
  | error k => rfl
  | ok n =>
   simp only
   have hy : checkN (setReg 0 r1 x).op (setReg 0 r1 x).a (setReg 0 r1 x).b n (setReg 0 r1 x).form = checkN x.op r1 x.b n x.form := rfl
   rw [hy]
   by_cases hc : checkN x.op r1 x.b n x.form = 0
   ·rw [if_pos hc]; rfl
   ·rw [if_neg hc]
theorem chk_8 (op : Int) (hop : 1 <= op /\ op <= 43) (hS : shapeN op = 8) (r m : Int) (hr : 0 <= r /\ r <= 7) : checkN op r 0 m 0 = 0 <-> (-128 <= m /\ m <= 127) := by
 unfold checkN
 rw [if_neg (by omega), hS]
 simp [regB, numB, spansB, aMax, bMax, nMin, nMax, shT, hr.1, hr.2]
theorem small_bad {x1 x2 : List Tok} {k op r1 : Int} (hop : 1 <= op /\ op <= 43) (hS : shapeN op = 8) (h1 : regF x1 false = some r1) (h : rconF x2 (-128) 127 = .error k) : opF (wantsF 8) [x1, x2] 0 (opItm op) = .error k := by
 have hr := regF_range h1
 rw [opF_small, h1]
 simp only
 unfold rconF at h
 cases hc : constF x2 with
 | error e => rw [hc] at h; simpa using h
 | ok n =>
  rw [hc] at h
  simp only at h ⊢
  split at h
  ·cases h
  ·rename_i hn
   have hne : ¬ checkN (opItm op).op r1 (opItm op).b n (opItm op).form = 0 := fun e => hn ((chk_8 op hop hS r1 n ⟨hr.1, hr.2.1⟩).1 e)
   rw [if_neg hne]
   simpa using h
theorem small_good {x1 x2 : List Tok} {n op r1 : Int} (hop : 1 <= op /\ op <= 43) (hS : shapeN op = 8) (h1 : regF x1 false = some r1) (h : rconF x2 (-128) 127 = .ok n) : opF (wantsF 8) [x1, x2] 0 (opItm op) = .ok { setReg 0 r1 (opItm op) with m := n } := by
 have hr := regF_range h1
 rw [opF_small, h1]
 simp only
 unfold rconF at h
 cases hc : constF x2 with
 | error e => rw [hc] at h; cases h
 | ok n' =>
  rw [hc] at h
  simp only at h ⊢
  split at h
  ·rename_i hn
   cases h
   have hne : checkN (opItm op).op r1 (opItm op).b n (opItm op).form = 0 := (chk_8 op hop hS r1 n ⟨hr.1, hr.2.1⟩).2 hn
   rw [if_pos hne]
  ·cases h
theorem stepF_r (p : Nat) (arg : List Tok) (y : Itm) : stepF 114 p arg y = match regF arg false with | none => .error 20 | some n => .ok (setReg p n y) := by unfold stepF; rw [if_pos (.inl rfl)]; try rfl
theorem stepF_z (p : Nat) (arg : List Tok) (y : Itm) : stepF 122 p arg y = match regF arg true with | none => .error 20 | some n => .ok (setReg p n y) := by unfold stepF; rw [if_pos (.inr rfl)]; try rfl
theorem stepF_e (p : Nat) (arg : List Tok) (y : Itm) : stepF 101 p arg y = exprF arg y := by unfold stepF; rw [if_neg (by omega), if_neg (by omega), if_neg (by omega)]
theorem stepF_l (p : Nat) (t : Tok) (r : List Tok) (y : Itm) : stepF 61 p (t :: r) y = if isS t 61 = true then exprF r y else .error 20 := by unfold stepF; rw [if_neg (by omega), if_neg (by omega), if_pos rfl]; try rfl
theorem exprF_ok {arg : List Tok} {y : Itm} {e : Lin} (h : parseF arg = .ok e) : exprF arg y = .ok { y with e := e } := by unfold exprF; rw [h]
theorem exprF_bad {arg : List Tok} {y : Itm} {k : Int} (h : parseF arg = .error k) : exprF arg y = .error k := by unfold exprF; rw [h]
end Go.Proofs.YtlkmegchaeokgaaGreatDoor
/- The document's code, by shapes. -/
namespace Go.Proofs.YtlkmegchaeokgaaGreatDoor
open Go.ChangeShapes Go.WideShapes Go.ChangeAt Go.RowKit
set_option linter.unusedVariables false
set_option maxRecDepth 100000
set_option maxHeartbeats 2000000 in
theorem code_1 (op : Int) (hop : 1 <= op /\ op <= 43) (hS : shapeN op = 1) (a : Option Addr) (c : Nat) (w : World) (hA : RArgsIn w.heap.size w a []) :
  Calls Tryz.prog 54 #[.int .i64 op, .slice a 0 c] w fun e w' => CodeOut w w' (opF (wantsF 1) [] 0 (opItm op)) e := by
 have hsh := fun w1 => shape_any op w1
 rw [hS] at hsh
 replace hsh := Hid.intro hsh
 have har : Hid (∀ w1 : World, Calls Tryz.prog 81 #[.int .i64 1] w1 fun e w' => e = .returned (.int .i64 0) /\ w' = w1) := fun w1 => refArgs_any 1 (by omega) w1
 obtain ⟨R0, hR0⟩ : ∃ R0, opF (wantsF 1) [] 0 (opItm op) = R0 := ⟨_, rfl⟩
 rw [hR0]
 replace hR0 := Hid.intro hR0
 have hAH := Hid.intro hA
 clear hA hS
 go_enter Tryz.func54, Tryz.ntmps54
 go_upto_region 47 with (first | (go_at_call 60; (with_reducible refine (hsh.out _).mono ?_); rintro e w1 ⟨rfl, hb1⟩; have hC := Hid.intro (cs2_new hAH.out op hb1)) | (go_at_call 81; (with_reducible refine (har.out _).mono ?_); rintro e w2 ⟨rfl, hw2⟩; obtain rfl : w1 = w2 := hw2.symm))
 all_goals first | omega | skip
 obtain ⟨p, hp⟩ : ∃ p, p = w1.heap.size := ⟨_, rfl⟩
 rw [<- hp] at hC ⊢
 generalize (w1.alloc (.cells #[.int .i64 2, .string ⟨#[]⟩, .int .i64 op, .int .i64 0, .int .i64 0, .int .i32 0, .int .i64 0, .slice none 0 0, .int .u32 0, .int .i64 0] 33)) = w3 at hC ⊢
 clear hp hb1
 obtain ⟨q0, q1, q2, q3, q4, q5, q6, q7, q8, q9⟩ := itAt_row hC.out.row
 have qf := fun j => frozen_of_row w3 p j _ 33 hC.out.row
 have hlo := hC.out.lo
 have n1 : ¬ p = w.heap.size := by omega
 have n2 : ¬ w.heap.size = p := by omega
 obtain ⟨X, hX⟩ : ∃ X, opItm op = X := ⟨_, rfl⟩
 have hO : Hid (R0 = .ok { X with m := 0 }) := by
  show R0 = .ok { X with m := 0 }
  rw [<- hR0.out, <- hX]
  rfl
 rw [hX] at hC
 clear hX
 clear q0 q1 q2 q3 q4 q5 q6 q7 q8 q9 qf
 obtain ⟨q0, q1, q2, q3, q4, q5, q6, q7, q8, q9⟩ := itAt_row hC.out.row
 have qf := fun j => frozen_of_row w3 p j _ 33 hC.out.row
 have hlo := hC.out.lo
 have n1 : ¬ p = w.heap.size := by omega
 have n2 : ¬ w.heap.size = p := by omega
 obtain ⟨t0, t1, t2, t3, t4, t5, t6, t7, t8, t9⟩ := itAt_row hC.out.res
 have tf := fun j => frozen_of_row w3 w.heap.size j _ 33 hC.out.res
 go_wp2
 all_goals first | omega | skip
 have hG := hC.out.put { X with m := 0 } 5 (.int .i32 0) rfl rfl
 generalize (w3.setCell ⟨p, 5, none⟩ (.int .i32 0)) = w8 at hG ⊢
 obtain ⟨s1, s2⟩ := ten_set hG.res (.int .i64 X.kind) (.string (str X.name)) (.int .i64 X.op) (.int .i64 X.a) (.int .i64 X.b) (.int .i32 0) (.int .i64 X.form) (.slice none 0 0) (.int .u32 X.e.const) (.int .i64 X.n)
 have hB9 := hG.bel.grown s2 hG.bel.size (fun j hj => by cases hj; exact Nat.le_refl _)
 have how9 := own_low hG.own s2 (by have := hG.lo; omega)
 generalize ((((((((((w8.setCell ⟨w.heap.size, 0, none⟩ (.int .i64 X.kind)).setCell ⟨w.heap.size, 1, none⟩ (.string (str X.name))).setCell ⟨w.heap.size, 2, none⟩ (.int .i64 X.op)).setCell ⟨w.heap.size, 3, none⟩ (.int .i64 X.a)).setCell ⟨w.heap.size, 4, none⟩ (.int .i64 X.b)).setCell ⟨w.heap.size, 5, none⟩ (.int .i32 0)).setCell ⟨w.heap.size, 6, none⟩ (.int .i64 X.form)).setCell ⟨w.heap.size, 7, none⟩ (.slice none 0 0)).setCell ⟨w.heap.size, 8, none⟩ (.int .u32 X.e.const)).setCell ⟨w.heap.size, 9, none⟩ (.int .i64 X.n)) = w9 at s1 s2 hB9 how9 ⊢
 obtain ⟨k0, k1, k2, k3, k4, k5, k6, k7, k8, k9⟩ := ten_read s1
 refine bodyPost_ret (by simp [results, Tryz.results54, go_sem, k0, k1, k2, k3, k4, k5, k6, k7, k8, k9]; try rfl) rfl ?_
 rw [hO.out]
 have hnl := own_len how9
 have hxt : X.e.terms = [] := List.eq_nil_of_length_eq_zero hnl.symm
 exact ⟨hB9, none, 0, 0, rfl, hnl, by show TmLies _ _ X.e.terms; rw [hxt]; exact TmLies.nil _ _⟩
set_option maxHeartbeats 2000000 in
theorem code_2 (op : Int) (hop : 1 <= op /\ op <= 43) (hS : shapeN op = 2) (a : Option Addr) (c : Nat) (x1 : List Tok) (w : World) (hA : RArgsIn w.heap.size w a [x1]) :
  Calls Tryz.prog 54 #[.int .i64 op, .slice a 1 c] w fun e w' => CodeOut w w' (opF (wantsF 2) [x1] 0 (opItm op)) e := by
 have hsh := fun w1 => shape_any op w1
 rw [hS] at hsh
 replace hsh := Hid.intro hsh
 have har : Hid (∀ w1 : World, Calls Tryz.prog 81 #[.int .i64 2] w1 fun e w' => e = .returned (.int .i64 1) /\ w' = w1) := fun w1 => refArgs_any 2 (by omega) w1
 obtain ⟨G, hG⟩ : ∃ G, a = some ⟨G, 0, none⟩ := by
  rcases hA.outer with h | ⟨G, h, _⟩
  ·cases h
  ·exact ⟨G, h⟩
 subst hG
 have e0 : atI (bs (str (wantsF 2))) 0 = 114 := rfl
 obtain ⟨R0, hR0⟩ : ∃ R0, opF (wantsF 2) [x1] 0 (opItm op) = R0 := ⟨_, rfl⟩
 rw [hR0]
 replace hR0 := Hid.intro hR0
 have hAH := Hid.intro hA
 clear hA hS
 go_enter Tryz.func54, Tryz.ntmps54
 go_upto_region 15 with (first | (go_at_call 60; (with_reducible refine (hsh.out _).mono ?_); rintro e w1 ⟨rfl, hb1⟩; have hC := Hid.intro (cs2_new hAH.out op hb1)) | (go_at_call 81; (with_reducible refine (har.out _).mono ?_); rintro e w2 ⟨rfl, hw2⟩; obtain rfl : w1 = w2 := hw2.symm))
 all_goals first | omega | skip
 obtain ⟨p, hp⟩ : ∃ p, p = w1.heap.size := ⟨_, rfl⟩
 rw [<- hp] at hC ⊢
 generalize (w1.alloc (.cells #[.int .i64 2, .string ⟨#[]⟩, .int .i64 op, .int .i64 0, .int .i64 0, .int .i32 0, .int .i64 0, .slice none 0 0, .int .u32 0, .int .i64 0] 33)) = w3 at hC ⊢
 clear hp hb1
 obtain ⟨a1, c1, hc1, N1, E1, hW1, hcall1⟩ := regR [x1] G 0 x1 false w3 _ rfl hC.out.ins
 generalize x1.length = l1 at hc1 hcall1
 replace hcall1 := Hid.intro hcall1
 obtain ⟨q0, q1, q2, q3, q4, q5, q6, q7, q8, q9⟩ := itAt_row hC.out.row
 have qf := fun j => frozen_of_row w3 p j _ 33 hC.out.row
 have hlo := hC.out.lo
 have n1 : ¬ p = w.heap.size := by omega
 have n2 : ¬ w.heap.size = p := by omega
 go_upto_region 22 with (go_at_call 82; (with_reducible refine (hcall1.out).mono ?_); rintro e w5 ⟨rfl, hw5⟩; obtain rfl : w3 = w5 := hw5.symm)
 all_goals first | omega | skip
 have hF := Hid.intro (hC.out.put (setReg 0 N1 (opItm op)) 3 (.int .i64 N1) rfl rfl)
 generalize (w3.setCell ⟨p, 3, none⟩ (.int .i64 N1)) = w6 at hF ⊢
 clear q0 q1 q2 q3 q4 q5 q6 q7 q8 q9 qf hc1 hcall1 hC
 obtain ⟨q0, q1, q2, q3, q4, q5, q6, q7, q8, q9⟩ := itAt_row hF.out.row
 have qf := fun j => frozen_of_row w6 p j _ 33 hF.out.row
 have hlo := hF.out.lo
 have n1 : ¬ p = w.heap.size := by omega
 have n2 : ¬ w.heap.size = p := by omega
 cases h1 : regF x1 false with
 | none =>
  rw [h1] at hW1
  obtain ⟨rfl, rfl⟩ := hW1
  obtain ⟨t0, t1, t2, t3, t4, t5, t6, t7, t8, t9⟩ := itAt_row hF.out.res
  have tf := fun j => frozen_of_row w6 w.heap.size j _ 33 hF.out.res
  have hO : Hid (R0 = .error 20) := by
   show R0 = .error 20
   rw [<- hR0.out]
   simp only [opF, e0, stepF_r, h1]; try rfl
  go_wp2
  all_goals first | omega | skip
  obtain ⟨s1, s2⟩ := ten_set hF.out.res (.int .i64 0) (.string ⟨#[]⟩) (.int .i64 0) (.int .i64 0) (.int .i64 0) (.int .i32 0) (.int .i64 0) (.slice none 0 0) (.int .u32 0) (.int .i64 0)
  have hB9 := hF.out.bel.grown s2 hF.out.bel.size (fun j hj => by cases hj; exact Nat.le_refl _)
  have how9 := own_low hF.out.own s2 (by have := hF.out.lo; omega)
  generalize ((((((((((w6.setCell ⟨w.heap.size, 0, none⟩ (.int .i64 0)).setCell ⟨w.heap.size, 1, none⟩ (.string ⟨#[]⟩)).setCell ⟨w.heap.size, 2, none⟩ (.int .i64 0)).setCell ⟨w.heap.size, 3, none⟩ (.int .i64 0)).setCell ⟨w.heap.size, 4, none⟩ (.int .i64 0)).setCell ⟨w.heap.size, 5, none⟩ (.int .i32 0)).setCell ⟨w.heap.size, 6, none⟩ (.int .i64 0)).setCell ⟨w.heap.size, 7, none⟩ (.slice none 0 0)).setCell ⟨w.heap.size, 8, none⟩ (.int .u32 0)).setCell ⟨w.heap.size, 9, none⟩ (.int .i64 0)) = w9 at s1 s2 hB9 how9 ⊢
  obtain ⟨k0, k1, k2, k3, k4, k5, k6, k7, k8, k9⟩ := ten_read s1
  refine bodyPost_ret (by simp [results, Tryz.results54, go_sem, k0, k1, k2, k3, k4, k5, k6, k7, k8, k9]; try rfl) rfl ?_
  rw [hO.out]
  exact ⟨hB9, rfl⟩
 | some r1 =>
  rw [h1] at hW1
  obtain ⟨rfl, rfl⟩ := hW1
  have hr1 := regF_range h1
  obtain ⟨X, hX⟩ : ∃ X, setReg 0 N1 (opItm op) = X := ⟨_, rfl⟩
  have hO : Hid (R0 = .ok { X with m := 0 }) := by
   show R0 = .ok { X with m := 0 }
   rw [<- hR0.out, <- hX]
   simp only [opF, e0, stepF_r, h1]; try rfl
  rw [hX] at hF
  clear hX
  clear q0 q1 q2 q3 q4 q5 q6 q7 q8 q9 qf
  obtain ⟨q0, q1, q2, q3, q4, q5, q6, q7, q8, q9⟩ := itAt_row hF.out.row
  have qf := fun j => frozen_of_row w6 p j _ 33 hF.out.row
  have hlo := hF.out.lo
  have n1 : ¬ p = w.heap.size := by omega
  have n2 : ¬ w.heap.size = p := by omega
  obtain ⟨t0, t1, t2, t3, t4, t5, t6, t7, t8, t9⟩ := itAt_row hF.out.res
  have tf := fun j => frozen_of_row w6 w.heap.size j _ 33 hF.out.res
  go_wp2
  all_goals first | omega | skip
  have hG := hF.out.put { X with m := 0 } 5 (.int .i32 0) rfl rfl
  generalize (w6.setCell ⟨p, 5, none⟩ (.int .i32 0)) = w8 at hG ⊢
  obtain ⟨s1, s2⟩ := ten_set hG.res (.int .i64 X.kind) (.string (str X.name)) (.int .i64 X.op) (.int .i64 X.a) (.int .i64 X.b) (.int .i32 0) (.int .i64 X.form) (.slice none 0 0) (.int .u32 X.e.const) (.int .i64 X.n)
  have hB9 := hG.bel.grown s2 hG.bel.size (fun j hj => by cases hj; exact Nat.le_refl _)
  have how9 := own_low hG.own s2 (by have := hG.lo; omega)
  generalize ((((((((((w8.setCell ⟨w.heap.size, 0, none⟩ (.int .i64 X.kind)).setCell ⟨w.heap.size, 1, none⟩ (.string (str X.name))).setCell ⟨w.heap.size, 2, none⟩ (.int .i64 X.op)).setCell ⟨w.heap.size, 3, none⟩ (.int .i64 X.a)).setCell ⟨w.heap.size, 4, none⟩ (.int .i64 X.b)).setCell ⟨w.heap.size, 5, none⟩ (.int .i32 0)).setCell ⟨w.heap.size, 6, none⟩ (.int .i64 X.form)).setCell ⟨w.heap.size, 7, none⟩ (.slice none 0 0)).setCell ⟨w.heap.size, 8, none⟩ (.int .u32 X.e.const)).setCell ⟨w.heap.size, 9, none⟩ (.int .i64 X.n)) = w9 at s1 s2 hB9 how9 ⊢
  obtain ⟨k0, k1, k2, k3, k4, k5, k6, k7, k8, k9⟩ := ten_read s1
  refine bodyPost_ret (by simp [results, Tryz.results54, go_sem, k0, k1, k2, k3, k4, k5, k6, k7, k8, k9]; try rfl) rfl ?_
  rw [hO.out]
  have hnl := own_len how9
  have hxt : X.e.terms = [] := List.eq_nil_of_length_eq_zero hnl.symm
  exact ⟨hB9, none, 0, 0, rfl, hnl, by show TmLies _ _ X.e.terms; rw [hxt]; exact TmLies.nil _ _⟩
set_option maxHeartbeats 2000000 in
theorem code_3 (op : Int) (hop : 1 <= op /\ op <= 43) (hS : shapeN op = 3) (a : Option Addr) (c : Nat) (x1 : List Tok) (w : World) (hA : RArgsIn w.heap.size w a [x1]) :
  Calls Tryz.prog 54 #[.int .i64 op, .slice a 1 c] w fun e w' => CodeOut w w' (opF (wantsF 3) [x1] 0 (opItm op)) e := by
 have hsh := fun w1 => shape_any op w1
 rw [hS] at hsh
 replace hsh := Hid.intro hsh
 have har : Hid (∀ w1 : World, Calls Tryz.prog 81 #[.int .i64 3] w1 fun e w' => e = .returned (.int .i64 1) /\ w' = w1) := fun w1 => refArgs_any 3 (by omega) w1
 obtain ⟨G, hG⟩ : ∃ G, a = some ⟨G, 0, none⟩ := by
  rcases hA.outer with h | ⟨G, h, _⟩
  ·cases h
  ·exact ⟨G, h⟩
 subst hG
 have e0 : atI (bs (str (wantsF 3))) 0 = 122 := rfl
 obtain ⟨R0, hR0⟩ : ∃ R0, opF (wantsF 3) [x1] 0 (opItm op) = R0 := ⟨_, rfl⟩
 rw [hR0]
 replace hR0 := Hid.intro hR0
 have hAH := Hid.intro hA
 clear hA hS
 go_enter Tryz.func54, Tryz.ntmps54
 go_upto_region 20 with (first | (go_at_call 60; (with_reducible refine (hsh.out _).mono ?_); rintro e w1 ⟨rfl, hb1⟩; have hC := Hid.intro (cs2_new hAH.out op hb1)) | (go_at_call 81; (with_reducible refine (har.out _).mono ?_); rintro e w2 ⟨rfl, hw2⟩; obtain rfl : w1 = w2 := hw2.symm))
 all_goals first | omega | skip
 obtain ⟨p, hp⟩ : ∃ p, p = w1.heap.size := ⟨_, rfl⟩
 rw [<- hp] at hC ⊢
 generalize (w1.alloc (.cells #[.int .i64 2, .string ⟨#[]⟩, .int .i64 op, .int .i64 0, .int .i64 0, .int .i32 0, .int .i64 0, .slice none 0 0, .int .u32 0, .int .i64 0] 33)) = w3 at hC ⊢
 clear hp hb1
 obtain ⟨a1, c1, hc1, N1, E1, hW1, hcall1⟩ := regR [x1] G 0 x1 true w3 _ rfl hC.out.ins
 generalize x1.length = l1 at hc1 hcall1
 replace hcall1 := Hid.intro hcall1
 obtain ⟨q0, q1, q2, q3, q4, q5, q6, q7, q8, q9⟩ := itAt_row hC.out.row
 have qf := fun j => frozen_of_row w3 p j _ 33 hC.out.row
 have hlo := hC.out.lo
 have n1 : ¬ p = w.heap.size := by omega
 have n2 : ¬ w.heap.size = p := by omega
 go_upto_region 22 with (go_at_call 82; (with_reducible refine (hcall1.out).mono ?_); rintro e w5 ⟨rfl, hw5⟩; obtain rfl : w3 = w5 := hw5.symm)
 all_goals first | omega | skip
 have hF := Hid.intro (hC.out.put (setReg 0 N1 (opItm op)) 3 (.int .i64 N1) rfl rfl)
 generalize (w3.setCell ⟨p, 3, none⟩ (.int .i64 N1)) = w6 at hF ⊢
 clear q0 q1 q2 q3 q4 q5 q6 q7 q8 q9 qf hc1 hcall1 hC
 obtain ⟨q0, q1, q2, q3, q4, q5, q6, q7, q8, q9⟩ := itAt_row hF.out.row
 have qf := fun j => frozen_of_row w6 p j _ 33 hF.out.row
 have hlo := hF.out.lo
 have n1 : ¬ p = w.heap.size := by omega
 have n2 : ¬ w.heap.size = p := by omega
 cases h1 : regF x1 true with
 | none =>
  rw [h1] at hW1
  obtain ⟨rfl, rfl⟩ := hW1
  obtain ⟨t0, t1, t2, t3, t4, t5, t6, t7, t8, t9⟩ := itAt_row hF.out.res
  have tf := fun j => frozen_of_row w6 w.heap.size j _ 33 hF.out.res
  have hO : Hid (R0 = .error 20) := by
   show R0 = .error 20
   rw [<- hR0.out]
   simp only [opF, e0, stepF_z, h1]; try rfl
  go_wp2
  all_goals first | omega | skip
  obtain ⟨s1, s2⟩ := ten_set hF.out.res (.int .i64 0) (.string ⟨#[]⟩) (.int .i64 0) (.int .i64 0) (.int .i64 0) (.int .i32 0) (.int .i64 0) (.slice none 0 0) (.int .u32 0) (.int .i64 0)
  have hB9 := hF.out.bel.grown s2 hF.out.bel.size (fun j hj => by cases hj; exact Nat.le_refl _)
  have how9 := own_low hF.out.own s2 (by have := hF.out.lo; omega)
  generalize ((((((((((w6.setCell ⟨w.heap.size, 0, none⟩ (.int .i64 0)).setCell ⟨w.heap.size, 1, none⟩ (.string ⟨#[]⟩)).setCell ⟨w.heap.size, 2, none⟩ (.int .i64 0)).setCell ⟨w.heap.size, 3, none⟩ (.int .i64 0)).setCell ⟨w.heap.size, 4, none⟩ (.int .i64 0)).setCell ⟨w.heap.size, 5, none⟩ (.int .i32 0)).setCell ⟨w.heap.size, 6, none⟩ (.int .i64 0)).setCell ⟨w.heap.size, 7, none⟩ (.slice none 0 0)).setCell ⟨w.heap.size, 8, none⟩ (.int .u32 0)).setCell ⟨w.heap.size, 9, none⟩ (.int .i64 0)) = w9 at s1 s2 hB9 how9 ⊢
  obtain ⟨k0, k1, k2, k3, k4, k5, k6, k7, k8, k9⟩ := ten_read s1
  refine bodyPost_ret (by simp [results, Tryz.results54, go_sem, k0, k1, k2, k3, k4, k5, k6, k7, k8, k9]; try rfl) rfl ?_
  rw [hO.out]
  exact ⟨hB9, rfl⟩
 | some r1 =>
  rw [h1] at hW1
  obtain ⟨rfl, rfl⟩ := hW1
  have hr1 := regF_range h1
  obtain ⟨X, hX⟩ : ∃ X, setReg 0 N1 (opItm op) = X := ⟨_, rfl⟩
  have hO : Hid (R0 = .ok { X with m := 0 }) := by
   show R0 = .ok { X with m := 0 }
   rw [<- hR0.out, <- hX]
   simp only [opF, e0, stepF_z, h1]; try rfl
  rw [hX] at hF
  clear hX
  clear q0 q1 q2 q3 q4 q5 q6 q7 q8 q9 qf
  obtain ⟨q0, q1, q2, q3, q4, q5, q6, q7, q8, q9⟩ := itAt_row hF.out.row
  have qf := fun j => frozen_of_row w6 p j _ 33 hF.out.row
  have hlo := hF.out.lo
  have n1 : ¬ p = w.heap.size := by omega
  have n2 : ¬ w.heap.size = p := by omega
  obtain ⟨t0, t1, t2, t3, t4, t5, t6, t7, t8, t9⟩ := itAt_row hF.out.res
  have tf := fun j => frozen_of_row w6 w.heap.size j _ 33 hF.out.res
  go_wp2
  all_goals first | omega | skip
  have hG := hF.out.put { X with m := 0 } 5 (.int .i32 0) rfl rfl
  generalize (w6.setCell ⟨p, 5, none⟩ (.int .i32 0)) = w8 at hG ⊢
  obtain ⟨s1, s2⟩ := ten_set hG.res (.int .i64 X.kind) (.string (str X.name)) (.int .i64 X.op) (.int .i64 X.a) (.int .i64 X.b) (.int .i32 0) (.int .i64 X.form) (.slice none 0 0) (.int .u32 X.e.const) (.int .i64 X.n)
  have hB9 := hG.bel.grown s2 hG.bel.size (fun j hj => by cases hj; exact Nat.le_refl _)
  have how9 := own_low hG.own s2 (by have := hG.lo; omega)
  generalize ((((((((((w8.setCell ⟨w.heap.size, 0, none⟩ (.int .i64 X.kind)).setCell ⟨w.heap.size, 1, none⟩ (.string (str X.name))).setCell ⟨w.heap.size, 2, none⟩ (.int .i64 X.op)).setCell ⟨w.heap.size, 3, none⟩ (.int .i64 X.a)).setCell ⟨w.heap.size, 4, none⟩ (.int .i64 X.b)).setCell ⟨w.heap.size, 5, none⟩ (.int .i32 0)).setCell ⟨w.heap.size, 6, none⟩ (.int .i64 X.form)).setCell ⟨w.heap.size, 7, none⟩ (.slice none 0 0)).setCell ⟨w.heap.size, 8, none⟩ (.int .u32 X.e.const)).setCell ⟨w.heap.size, 9, none⟩ (.int .i64 X.n)) = w9 at s1 s2 hB9 how9 ⊢
  obtain ⟨k0, k1, k2, k3, k4, k5, k6, k7, k8, k9⟩ := ten_read s1
  refine bodyPost_ret (by simp [results, Tryz.results54, go_sem, k0, k1, k2, k3, k4, k5, k6, k7, k8, k9]; try rfl) rfl ?_
  rw [hO.out]
  have hnl := own_len how9
  have hxt : X.e.terms = [] := List.eq_nil_of_length_eq_zero hnl.symm
  exact ⟨hB9, none, 0, 0, rfl, hnl, by show TmLies _ _ X.e.terms; rw [hxt]; exact TmLies.nil _ _⟩
set_option maxHeartbeats 2000000 in
theorem code_4 (op : Int) (hop : 1 <= op /\ op <= 43) (hS : shapeN op = 4) (a : Option Addr) (c : Nat) (x1 x2 : List Tok) (w : World) (hA : RArgsIn w.heap.size w a [x1, x2]) :
  Calls Tryz.prog 54 #[.int .i64 op, .slice a 2 c] w fun e w' => CodeOut w w' (opF (wantsF 4) [x1, x2] 0 (opItm op)) e := by
 have hsh := fun w1 => shape_any op w1
 rw [hS] at hsh
 replace hsh := Hid.intro hsh
 have har : Hid (∀ w1 : World, Calls Tryz.prog 81 #[.int .i64 4] w1 fun e w' => e = .returned (.int .i64 2) /\ w' = w1) := fun w1 => refArgs_any 4 (by omega) w1
 obtain ⟨G, hG⟩ : ∃ G, a = some ⟨G, 0, none⟩ := by
  rcases hA.outer with h | ⟨G, h, _⟩
  ·cases h
  ·exact ⟨G, h⟩
 subst hG
 have e0 : atI (bs (str (wantsF 4))) 0 = 114 := rfl
 have e1 : atI (bs (str (wantsF 4))) (0 + 1) = 114 := rfl
 obtain ⟨R0, hR0⟩ : ∃ R0, opF (wantsF 4) [x1, x2] 0 (opItm op) = R0 := ⟨_, rfl⟩
 rw [hR0]
 replace hR0 := Hid.intro hR0
 have hAH := Hid.intro hA
 clear hA hS
 go_enter Tryz.func54, Tryz.ntmps54
 go_upto_region 15 with (first | (go_at_call 60; (with_reducible refine (hsh.out _).mono ?_); rintro e w1 ⟨rfl, hb1⟩; have hC := Hid.intro (cs2_new hAH.out op hb1)) | (go_at_call 81; (with_reducible refine (har.out _).mono ?_); rintro e w2 ⟨rfl, hw2⟩; obtain rfl : w1 = w2 := hw2.symm))
 all_goals first | omega | skip
 obtain ⟨p, hp⟩ : ∃ p, p = w1.heap.size := ⟨_, rfl⟩
 rw [<- hp] at hC ⊢
 generalize (w1.alloc (.cells #[.int .i64 2, .string ⟨#[]⟩, .int .i64 op, .int .i64 0, .int .i64 0, .int .i32 0, .int .i64 0, .slice none 0 0, .int .u32 0, .int .i64 0] 33)) = w3 at hC ⊢
 clear hp hb1
 obtain ⟨a1, c1, hc1, N1, E1, hW1, hcall1⟩ := regR [x1, x2] G 0 x1 false w3 _ rfl hC.out.ins
 generalize x1.length = l1 at hc1 hcall1
 replace hcall1 := Hid.intro hcall1
 obtain ⟨q0, q1, q2, q3, q4, q5, q6, q7, q8, q9⟩ := itAt_row hC.out.row
 have qf := fun j => frozen_of_row w3 p j _ 33 hC.out.row
 have hlo := hC.out.lo
 have n1 : ¬ p = w.heap.size := by omega
 have n2 : ¬ w.heap.size = p := by omega
 go_upto_region 22 with (go_at_call 82; (with_reducible refine (hcall1.out).mono ?_); rintro e w5 ⟨rfl, hw5⟩; obtain rfl : w3 = w5 := hw5.symm)
 all_goals first | omega | skip
 have hF := Hid.intro (hC.out.put (setReg 0 N1 (opItm op)) 3 (.int .i64 N1) rfl rfl)
 generalize (w3.setCell ⟨p, 3, none⟩ (.int .i64 N1)) = w6 at hF ⊢
 clear q0 q1 q2 q3 q4 q5 q6 q7 q8 q9 qf hc1 hcall1 hC
 obtain ⟨q0, q1, q2, q3, q4, q5, q6, q7, q8, q9⟩ := itAt_row hF.out.row
 have qf := fun j => frozen_of_row w6 p j _ 33 hF.out.row
 have hlo := hF.out.lo
 have n1 : ¬ p = w.heap.size := by omega
 have n2 : ¬ w.heap.size = p := by omega
 cases h1 : regF x1 false with
 | none =>
  rw [h1] at hW1
  obtain ⟨rfl, rfl⟩ := hW1
  obtain ⟨t0, t1, t2, t3, t4, t5, t6, t7, t8, t9⟩ := itAt_row hF.out.res
  have tf := fun j => frozen_of_row w6 w.heap.size j _ 33 hF.out.res
  have hO : Hid (R0 = .error 20) := by
   show R0 = .error 20
   rw [<- hR0.out]
   simp only [opF, e0, stepF_r, h1]; try rfl
  go_wp2
  all_goals first | omega | skip
  obtain ⟨s1, s2⟩ := ten_set hF.out.res (.int .i64 0) (.string ⟨#[]⟩) (.int .i64 0) (.int .i64 0) (.int .i64 0) (.int .i32 0) (.int .i64 0) (.slice none 0 0) (.int .u32 0) (.int .i64 0)
  have hB9 := hF.out.bel.grown s2 hF.out.bel.size (fun j hj => by cases hj; exact Nat.le_refl _)
  have how9 := own_low hF.out.own s2 (by have := hF.out.lo; omega)
  generalize ((((((((((w6.setCell ⟨w.heap.size, 0, none⟩ (.int .i64 0)).setCell ⟨w.heap.size, 1, none⟩ (.string ⟨#[]⟩)).setCell ⟨w.heap.size, 2, none⟩ (.int .i64 0)).setCell ⟨w.heap.size, 3, none⟩ (.int .i64 0)).setCell ⟨w.heap.size, 4, none⟩ (.int .i64 0)).setCell ⟨w.heap.size, 5, none⟩ (.int .i32 0)).setCell ⟨w.heap.size, 6, none⟩ (.int .i64 0)).setCell ⟨w.heap.size, 7, none⟩ (.slice none 0 0)).setCell ⟨w.heap.size, 8, none⟩ (.int .u32 0)).setCell ⟨w.heap.size, 9, none⟩ (.int .i64 0)) = w9 at s1 s2 hB9 how9 ⊢
  obtain ⟨k0, k1, k2, k3, k4, k5, k6, k7, k8, k9⟩ := ten_read s1
  refine bodyPost_ret (by simp [results, Tryz.results54, go_sem, k0, k1, k2, k3, k4, k5, k6, k7, k8, k9]; try rfl) rfl ?_
  rw [hO.out]
  exact ⟨hB9, rfl⟩
 | some r1 =>
  rw [h1] at hW1
  obtain ⟨rfl, rfl⟩ := hW1
  have hr1 := regF_range h1
  obtain ⟨a2, c2, hc2, N2, E2, hW2, hcall2⟩ := regR [x1, x2] G 1 x2 false w6 _ rfl hF.out.ins
  generalize x2.length = l2 at hc2 hcall2
  replace hcall2 := Hid.intro hcall2
  go_upto_region 47 with (go_at_call 82; (with_reducible refine (hcall2.out).mono ?_); rintro e w7 ⟨rfl, hw7⟩; obtain rfl : w6 = w7 := hw7.symm)
  all_goals first | omega | skip
  replace hF := Hid.intro (hF.out.put (setReg 1 N2 (setReg 0 N1 (opItm op))) 4 (.int .i64 N2) rfl rfl)
  generalize (w6.setCell ⟨p, 4, none⟩ (.int .i64 N2)) = w7 at hF ⊢
  clear q0 q1 q2 q3 q4 q5 q6 q7 q8 q9 qf hc2 hcall2
  obtain ⟨q0, q1, q2, q3, q4, q5, q6, q7, q8, q9⟩ := itAt_row hF.out.row
  have qf := fun j => frozen_of_row w7 p j _ 33 hF.out.row
  have hlo := hF.out.lo
  have n1 : ¬ p = w.heap.size := by omega
  have n2 : ¬ w.heap.size = p := by omega
  cases h2 : regF x2 false with
  | none =>
   rw [h2] at hW2
   obtain ⟨rfl, rfl⟩ := hW2
   obtain ⟨t0, t1, t2, t3, t4, t5, t6, t7, t8, t9⟩ := itAt_row hF.out.res
   have tf := fun j => frozen_of_row w7 w.heap.size j _ 33 hF.out.res
   have hO : Hid (R0 = .error 20) := by
    show R0 = .error 20
    rw [<- hR0.out]
    simp only [opF, e0, e1, stepF_r, h1, h2]; try rfl
   go_wp2
   all_goals first | omega | skip
   obtain ⟨s1, s2⟩ := ten_set hF.out.res (.int .i64 0) (.string ⟨#[]⟩) (.int .i64 0) (.int .i64 0) (.int .i64 0) (.int .i32 0) (.int .i64 0) (.slice none 0 0) (.int .u32 0) (.int .i64 0)
   have hB9 := hF.out.bel.grown s2 hF.out.bel.size (fun j hj => by cases hj; exact Nat.le_refl _)
   have how9 := own_low hF.out.own s2 (by have := hF.out.lo; omega)
   generalize ((((((((((w7.setCell ⟨w.heap.size, 0, none⟩ (.int .i64 0)).setCell ⟨w.heap.size, 1, none⟩ (.string ⟨#[]⟩)).setCell ⟨w.heap.size, 2, none⟩ (.int .i64 0)).setCell ⟨w.heap.size, 3, none⟩ (.int .i64 0)).setCell ⟨w.heap.size, 4, none⟩ (.int .i64 0)).setCell ⟨w.heap.size, 5, none⟩ (.int .i32 0)).setCell ⟨w.heap.size, 6, none⟩ (.int .i64 0)).setCell ⟨w.heap.size, 7, none⟩ (.slice none 0 0)).setCell ⟨w.heap.size, 8, none⟩ (.int .u32 0)).setCell ⟨w.heap.size, 9, none⟩ (.int .i64 0)) = w9 at s1 s2 hB9 how9 ⊢
   obtain ⟨k0, k1, k2, k3, k4, k5, k6, k7, k8, k9⟩ := ten_read s1
   refine bodyPost_ret (by simp [results, Tryz.results54, go_sem, k0, k1, k2, k3, k4, k5, k6, k7, k8, k9]; try rfl) rfl ?_
   rw [hO.out]
   exact ⟨hB9, rfl⟩
  | some r2 =>
   rw [h2] at hW2
   obtain ⟨rfl, rfl⟩ := hW2
   obtain ⟨X, hX⟩ : ∃ X, setReg 1 N2 (setReg 0 N1 (opItm op)) = X := ⟨_, rfl⟩
   have hO : Hid (R0 = .ok { X with m := 0 }) := by
    show R0 = .ok { X with m := 0 }
    rw [<- hR0.out, <- hX]
    simp only [opF, e0, e1, stepF_r, h1, h2]; try rfl
   rw [hX] at hF
   clear hX
   clear q0 q1 q2 q3 q4 q5 q6 q7 q8 q9 qf
   obtain ⟨q0, q1, q2, q3, q4, q5, q6, q7, q8, q9⟩ := itAt_row hF.out.row
   have qf := fun j => frozen_of_row w7 p j _ 33 hF.out.row
   have hlo := hF.out.lo
   have n1 : ¬ p = w.heap.size := by omega
   have n2 : ¬ w.heap.size = p := by omega
   obtain ⟨t0, t1, t2, t3, t4, t5, t6, t7, t8, t9⟩ := itAt_row hF.out.res
   have tf := fun j => frozen_of_row w7 w.heap.size j _ 33 hF.out.res
   go_wp2
   all_goals first | omega | skip
   have hG := hF.out.put { X with m := 0 } 5 (.int .i32 0) rfl rfl
   generalize (w7.setCell ⟨p, 5, none⟩ (.int .i32 0)) = w8 at hG ⊢
   obtain ⟨s1, s2⟩ := ten_set hG.res (.int .i64 X.kind) (.string (str X.name)) (.int .i64 X.op) (.int .i64 X.a) (.int .i64 X.b) (.int .i32 0) (.int .i64 X.form) (.slice none 0 0) (.int .u32 X.e.const) (.int .i64 X.n)
   have hB9 := hG.bel.grown s2 hG.bel.size (fun j hj => by cases hj; exact Nat.le_refl _)
   have how9 := own_low hG.own s2 (by have := hG.lo; omega)
   generalize ((((((((((w8.setCell ⟨w.heap.size, 0, none⟩ (.int .i64 X.kind)).setCell ⟨w.heap.size, 1, none⟩ (.string (str X.name))).setCell ⟨w.heap.size, 2, none⟩ (.int .i64 X.op)).setCell ⟨w.heap.size, 3, none⟩ (.int .i64 X.a)).setCell ⟨w.heap.size, 4, none⟩ (.int .i64 X.b)).setCell ⟨w.heap.size, 5, none⟩ (.int .i32 0)).setCell ⟨w.heap.size, 6, none⟩ (.int .i64 X.form)).setCell ⟨w.heap.size, 7, none⟩ (.slice none 0 0)).setCell ⟨w.heap.size, 8, none⟩ (.int .u32 X.e.const)).setCell ⟨w.heap.size, 9, none⟩ (.int .i64 X.n)) = w9 at s1 s2 hB9 how9 ⊢
   obtain ⟨k0, k1, k2, k3, k4, k5, k6, k7, k8, k9⟩ := ten_read s1
   refine bodyPost_ret (by simp [results, Tryz.results54, go_sem, k0, k1, k2, k3, k4, k5, k6, k7, k8, k9]; try rfl) rfl ?_
   rw [hO.out]
   have hnl := own_len how9
   have hxt : X.e.terms = [] := List.eq_nil_of_length_eq_zero hnl.symm
   exact ⟨hB9, none, 0, 0, rfl, hnl, by show TmLies _ _ X.e.terms; rw [hxt]; exact TmLies.nil _ _⟩
end Go.Proofs.YtlkmegchaeokgaaGreatDoor
/- The document's code, by shapes. -/
namespace Go.Proofs.YtlkmegchaeokgaaGreatDoor
open Go.ChangeShapes Go.WideShapes Go.ChangeAt Go.RowKit
set_option linter.unusedVariables false
set_option maxRecDepth 100000
set_option maxHeartbeats 2000000 in
theorem code_5 (op : Int) (hop : 1 <= op /\ op <= 43) (hS : shapeN op = 5) (a : Option Addr) (c : Nat) (x1 x2 : List Tok) (w : World) (hA : RArgsIn w.heap.size w a [x1, x2]) :
  Calls Tryz.prog 54 #[.int .i64 op, .slice a 2 c] w fun e w' => CodeOut w w' (opF (wantsF 5) [x1, x2] 0 (opItm op)) e := by
 have hsh := fun w1 => shape_any op w1
 rw [hS] at hsh
 replace hsh := Hid.intro hsh
 have har : Hid (∀ w1 : World, Calls Tryz.prog 81 #[.int .i64 5] w1 fun e w' => e = .returned (.int .i64 2) /\ w' = w1) := fun w1 => refArgs_any 5 (by omega) w1
 obtain ⟨G, hG⟩ : ∃ G, a = some ⟨G, 0, none⟩ := by
  rcases hA.outer with h | ⟨G, h, _⟩
  ·cases h
  ·exact ⟨G, h⟩
 subst hG
 have e0 : atI (bs (str (wantsF 5))) 0 = 122 := rfl
 have e1 : atI (bs (str (wantsF 5))) (0 + 1) = 122 := rfl
 obtain ⟨R0, hR0⟩ : ∃ R0, opF (wantsF 5) [x1, x2] 0 (opItm op) = R0 := ⟨_, rfl⟩
 rw [hR0]
 replace hR0 := Hid.intro hR0
 have hAH := Hid.intro hA
 clear hA hS
 go_enter Tryz.func54, Tryz.ntmps54
 go_upto_region 20 with (first | (go_at_call 60; (with_reducible refine (hsh.out _).mono ?_); rintro e w1 ⟨rfl, hb1⟩; have hC := Hid.intro (cs2_new hAH.out op hb1)) | (go_at_call 81; (with_reducible refine (har.out _).mono ?_); rintro e w2 ⟨rfl, hw2⟩; obtain rfl : w1 = w2 := hw2.symm))
 all_goals first | omega | skip
 obtain ⟨p, hp⟩ : ∃ p, p = w1.heap.size := ⟨_, rfl⟩
 rw [<- hp] at hC ⊢
 generalize (w1.alloc (.cells #[.int .i64 2, .string ⟨#[]⟩, .int .i64 op, .int .i64 0, .int .i64 0, .int .i32 0, .int .i64 0, .slice none 0 0, .int .u32 0, .int .i64 0] 33)) = w3 at hC ⊢
 clear hp hb1
 obtain ⟨a1, c1, hc1, N1, E1, hW1, hcall1⟩ := regR [x1, x2] G 0 x1 true w3 _ rfl hC.out.ins
 generalize x1.length = l1 at hc1 hcall1
 replace hcall1 := Hid.intro hcall1
 obtain ⟨q0, q1, q2, q3, q4, q5, q6, q7, q8, q9⟩ := itAt_row hC.out.row
 have qf := fun j => frozen_of_row w3 p j _ 33 hC.out.row
 have hlo := hC.out.lo
 have n1 : ¬ p = w.heap.size := by omega
 have n2 : ¬ w.heap.size = p := by omega
 go_upto_region 22 with (go_at_call 82; (with_reducible refine (hcall1.out).mono ?_); rintro e w5 ⟨rfl, hw5⟩; obtain rfl : w3 = w5 := hw5.symm)
 all_goals first | omega | skip
 have hF := Hid.intro (hC.out.put (setReg 0 N1 (opItm op)) 3 (.int .i64 N1) rfl rfl)
 generalize (w3.setCell ⟨p, 3, none⟩ (.int .i64 N1)) = w6 at hF ⊢
 clear q0 q1 q2 q3 q4 q5 q6 q7 q8 q9 qf hc1 hcall1 hC
 obtain ⟨q0, q1, q2, q3, q4, q5, q6, q7, q8, q9⟩ := itAt_row hF.out.row
 have qf := fun j => frozen_of_row w6 p j _ 33 hF.out.row
 have hlo := hF.out.lo
 have n1 : ¬ p = w.heap.size := by omega
 have n2 : ¬ w.heap.size = p := by omega
 cases h1 : regF x1 true with
 | none =>
  rw [h1] at hW1
  obtain ⟨rfl, rfl⟩ := hW1
  obtain ⟨t0, t1, t2, t3, t4, t5, t6, t7, t8, t9⟩ := itAt_row hF.out.res
  have tf := fun j => frozen_of_row w6 w.heap.size j _ 33 hF.out.res
  have hO : Hid (R0 = .error 20) := by
   show R0 = .error 20
   rw [<- hR0.out]
   simp only [opF, e0, stepF_z, h1]; try rfl
  go_wp2
  all_goals first | omega | skip
  obtain ⟨s1, s2⟩ := ten_set hF.out.res (.int .i64 0) (.string ⟨#[]⟩) (.int .i64 0) (.int .i64 0) (.int .i64 0) (.int .i32 0) (.int .i64 0) (.slice none 0 0) (.int .u32 0) (.int .i64 0)
  have hB9 := hF.out.bel.grown s2 hF.out.bel.size (fun j hj => by cases hj; exact Nat.le_refl _)
  have how9 := own_low hF.out.own s2 (by have := hF.out.lo; omega)
  generalize ((((((((((w6.setCell ⟨w.heap.size, 0, none⟩ (.int .i64 0)).setCell ⟨w.heap.size, 1, none⟩ (.string ⟨#[]⟩)).setCell ⟨w.heap.size, 2, none⟩ (.int .i64 0)).setCell ⟨w.heap.size, 3, none⟩ (.int .i64 0)).setCell ⟨w.heap.size, 4, none⟩ (.int .i64 0)).setCell ⟨w.heap.size, 5, none⟩ (.int .i32 0)).setCell ⟨w.heap.size, 6, none⟩ (.int .i64 0)).setCell ⟨w.heap.size, 7, none⟩ (.slice none 0 0)).setCell ⟨w.heap.size, 8, none⟩ (.int .u32 0)).setCell ⟨w.heap.size, 9, none⟩ (.int .i64 0)) = w9 at s1 s2 hB9 how9 ⊢
  obtain ⟨k0, k1, k2, k3, k4, k5, k6, k7, k8, k9⟩ := ten_read s1
  refine bodyPost_ret (by simp [results, Tryz.results54, go_sem, k0, k1, k2, k3, k4, k5, k6, k7, k8, k9]; try rfl) rfl ?_
  rw [hO.out]
  exact ⟨hB9, rfl⟩
 | some r1 =>
  rw [h1] at hW1
  obtain ⟨rfl, rfl⟩ := hW1
  have hr1 := regF_range h1
  obtain ⟨a2, c2, hc2, N2, E2, hW2, hcall2⟩ := regR [x1, x2] G 1 x2 true w6 _ rfl hF.out.ins
  generalize x2.length = l2 at hc2 hcall2
  replace hcall2 := Hid.intro hcall2
  go_upto_region 47 with (go_at_call 82; (with_reducible refine (hcall2.out).mono ?_); rintro e w7 ⟨rfl, hw7⟩; obtain rfl : w6 = w7 := hw7.symm)
  all_goals first | omega | skip
  replace hF := Hid.intro (hF.out.put (setReg 1 N2 (setReg 0 N1 (opItm op))) 4 (.int .i64 N2) rfl rfl)
  generalize (w6.setCell ⟨p, 4, none⟩ (.int .i64 N2)) = w7 at hF ⊢
  clear q0 q1 q2 q3 q4 q5 q6 q7 q8 q9 qf hc2 hcall2
  obtain ⟨q0, q1, q2, q3, q4, q5, q6, q7, q8, q9⟩ := itAt_row hF.out.row
  have qf := fun j => frozen_of_row w7 p j _ 33 hF.out.row
  have hlo := hF.out.lo
  have n1 : ¬ p = w.heap.size := by omega
  have n2 : ¬ w.heap.size = p := by omega
  cases h2 : regF x2 true with
  | none =>
   rw [h2] at hW2
   obtain ⟨rfl, rfl⟩ := hW2
   obtain ⟨t0, t1, t2, t3, t4, t5, t6, t7, t8, t9⟩ := itAt_row hF.out.res
   have tf := fun j => frozen_of_row w7 w.heap.size j _ 33 hF.out.res
   have hO : Hid (R0 = .error 20) := by
    show R0 = .error 20
    rw [<- hR0.out]
    simp only [opF, e0, e1, stepF_z, h1, h2]; try rfl
   go_wp2
   all_goals first | omega | skip
   obtain ⟨s1, s2⟩ := ten_set hF.out.res (.int .i64 0) (.string ⟨#[]⟩) (.int .i64 0) (.int .i64 0) (.int .i64 0) (.int .i32 0) (.int .i64 0) (.slice none 0 0) (.int .u32 0) (.int .i64 0)
   have hB9 := hF.out.bel.grown s2 hF.out.bel.size (fun j hj => by cases hj; exact Nat.le_refl _)
   have how9 := own_low hF.out.own s2 (by have := hF.out.lo; omega)
   generalize ((((((((((w7.setCell ⟨w.heap.size, 0, none⟩ (.int .i64 0)).setCell ⟨w.heap.size, 1, none⟩ (.string ⟨#[]⟩)).setCell ⟨w.heap.size, 2, none⟩ (.int .i64 0)).setCell ⟨w.heap.size, 3, none⟩ (.int .i64 0)).setCell ⟨w.heap.size, 4, none⟩ (.int .i64 0)).setCell ⟨w.heap.size, 5, none⟩ (.int .i32 0)).setCell ⟨w.heap.size, 6, none⟩ (.int .i64 0)).setCell ⟨w.heap.size, 7, none⟩ (.slice none 0 0)).setCell ⟨w.heap.size, 8, none⟩ (.int .u32 0)).setCell ⟨w.heap.size, 9, none⟩ (.int .i64 0)) = w9 at s1 s2 hB9 how9 ⊢
   obtain ⟨k0, k1, k2, k3, k4, k5, k6, k7, k8, k9⟩ := ten_read s1
   refine bodyPost_ret (by simp [results, Tryz.results54, go_sem, k0, k1, k2, k3, k4, k5, k6, k7, k8, k9]; try rfl) rfl ?_
   rw [hO.out]
   exact ⟨hB9, rfl⟩
  | some r2 =>
   rw [h2] at hW2
   obtain ⟨rfl, rfl⟩ := hW2
   obtain ⟨X, hX⟩ : ∃ X, setReg 1 N2 (setReg 0 N1 (opItm op)) = X := ⟨_, rfl⟩
   have hO : Hid (R0 = .ok { X with m := 0 }) := by
    show R0 = .ok { X with m := 0 }
    rw [<- hR0.out, <- hX]
    simp only [opF, e0, e1, stepF_z, h1, h2]; try rfl
   rw [hX] at hF
   clear hX
   clear q0 q1 q2 q3 q4 q5 q6 q7 q8 q9 qf
   obtain ⟨q0, q1, q2, q3, q4, q5, q6, q7, q8, q9⟩ := itAt_row hF.out.row
   have qf := fun j => frozen_of_row w7 p j _ 33 hF.out.row
   have hlo := hF.out.lo
   have n1 : ¬ p = w.heap.size := by omega
   have n2 : ¬ w.heap.size = p := by omega
   obtain ⟨t0, t1, t2, t3, t4, t5, t6, t7, t8, t9⟩ := itAt_row hF.out.res
   have tf := fun j => frozen_of_row w7 w.heap.size j _ 33 hF.out.res
   go_wp2
   all_goals first | omega | skip
   have hG := hF.out.put { X with m := 0 } 5 (.int .i32 0) rfl rfl
   generalize (w7.setCell ⟨p, 5, none⟩ (.int .i32 0)) = w8 at hG ⊢
   obtain ⟨s1, s2⟩ := ten_set hG.res (.int .i64 X.kind) (.string (str X.name)) (.int .i64 X.op) (.int .i64 X.a) (.int .i64 X.b) (.int .i32 0) (.int .i64 X.form) (.slice none 0 0) (.int .u32 X.e.const) (.int .i64 X.n)
   have hB9 := hG.bel.grown s2 hG.bel.size (fun j hj => by cases hj; exact Nat.le_refl _)
   have how9 := own_low hG.own s2 (by have := hG.lo; omega)
   generalize ((((((((((w8.setCell ⟨w.heap.size, 0, none⟩ (.int .i64 X.kind)).setCell ⟨w.heap.size, 1, none⟩ (.string (str X.name))).setCell ⟨w.heap.size, 2, none⟩ (.int .i64 X.op)).setCell ⟨w.heap.size, 3, none⟩ (.int .i64 X.a)).setCell ⟨w.heap.size, 4, none⟩ (.int .i64 X.b)).setCell ⟨w.heap.size, 5, none⟩ (.int .i32 0)).setCell ⟨w.heap.size, 6, none⟩ (.int .i64 X.form)).setCell ⟨w.heap.size, 7, none⟩ (.slice none 0 0)).setCell ⟨w.heap.size, 8, none⟩ (.int .u32 X.e.const)).setCell ⟨w.heap.size, 9, none⟩ (.int .i64 X.n)) = w9 at s1 s2 hB9 how9 ⊢
   obtain ⟨k0, k1, k2, k3, k4, k5, k6, k7, k8, k9⟩ := ten_read s1
   refine bodyPost_ret (by simp [results, Tryz.results54, go_sem, k0, k1, k2, k3, k4, k5, k6, k7, k8, k9]; try rfl) rfl ?_
   rw [hO.out]
   have hnl := own_len how9
   have hxt : X.e.terms = [] := List.eq_nil_of_length_eq_zero hnl.symm
   exact ⟨hB9, none, 0, 0, rfl, hnl, by show TmLies _ _ X.e.terms; rw [hxt]; exact TmLies.nil _ _⟩
set_option maxHeartbeats 2000000 in
theorem code_6 (op : Int) (hop : 1 <= op /\ op <= 43) (hS : shapeN op = 6) (a : Option Addr) (c : Nat) (x1 x2 : List Tok) (w : World) (hA : RArgsIn w.heap.size w a [x1, x2]) :
  Calls Tryz.prog 54 #[.int .i64 op, .slice a 2 c] w fun e w' => CodeOut w w' (opF (wantsF 6) [x1, x2] 0 (opItm op)) e := by
 have hsh := fun w1 => shape_any op w1
 rw [hS] at hsh
 replace hsh := Hid.intro hsh
 have har : Hid (∀ w1 : World, Calls Tryz.prog 81 #[.int .i64 6] w1 fun e w' => e = .returned (.int .i64 2) /\ w' = w1) := fun w1 => refArgs_any 6 (by omega) w1
 obtain ⟨G, hG⟩ : ∃ G, a = some ⟨G, 0, none⟩ := by
  rcases hA.outer with h | ⟨G, h, _⟩
  ·cases h
  ·exact ⟨G, h⟩
 subst hG
 have e0 : atI (bs (str (wantsF 6))) 0 = 114 := rfl
 have e1 : atI (bs (str (wantsF 6))) (0 + 1) = 122 := rfl
 obtain ⟨R0, hR0⟩ : ∃ R0, opF (wantsF 6) [x1, x2] 0 (opItm op) = R0 := ⟨_, rfl⟩
 rw [hR0]
 replace hR0 := Hid.intro hR0
 have hAH := Hid.intro hA
 clear hA hS
 go_enter Tryz.func54, Tryz.ntmps54
 go_upto_region 15 with (first | (go_at_call 60; (with_reducible refine (hsh.out _).mono ?_); rintro e w1 ⟨rfl, hb1⟩; have hC := Hid.intro (cs2_new hAH.out op hb1)) | (go_at_call 81; (with_reducible refine (har.out _).mono ?_); rintro e w2 ⟨rfl, hw2⟩; obtain rfl : w1 = w2 := hw2.symm))
 all_goals first | omega | skip
 obtain ⟨p, hp⟩ : ∃ p, p = w1.heap.size := ⟨_, rfl⟩
 rw [<- hp] at hC ⊢
 generalize (w1.alloc (.cells #[.int .i64 2, .string ⟨#[]⟩, .int .i64 op, .int .i64 0, .int .i64 0, .int .i32 0, .int .i64 0, .slice none 0 0, .int .u32 0, .int .i64 0] 33)) = w3 at hC ⊢
 clear hp hb1
 obtain ⟨a1, c1, hc1, N1, E1, hW1, hcall1⟩ := regR [x1, x2] G 0 x1 false w3 _ rfl hC.out.ins
 generalize x1.length = l1 at hc1 hcall1
 replace hcall1 := Hid.intro hcall1
 obtain ⟨q0, q1, q2, q3, q4, q5, q6, q7, q8, q9⟩ := itAt_row hC.out.row
 have qf := fun j => frozen_of_row w3 p j _ 33 hC.out.row
 have hlo := hC.out.lo
 have n1 : ¬ p = w.heap.size := by omega
 have n2 : ¬ w.heap.size = p := by omega
 go_upto_region 22 with (go_at_call 82; (with_reducible refine (hcall1.out).mono ?_); rintro e w5 ⟨rfl, hw5⟩; obtain rfl : w3 = w5 := hw5.symm)
 all_goals first | omega | skip
 have hF := Hid.intro (hC.out.put (setReg 0 N1 (opItm op)) 3 (.int .i64 N1) rfl rfl)
 generalize (w3.setCell ⟨p, 3, none⟩ (.int .i64 N1)) = w6 at hF ⊢
 clear q0 q1 q2 q3 q4 q5 q6 q7 q8 q9 qf hc1 hcall1 hC
 obtain ⟨q0, q1, q2, q3, q4, q5, q6, q7, q8, q9⟩ := itAt_row hF.out.row
 have qf := fun j => frozen_of_row w6 p j _ 33 hF.out.row
 have hlo := hF.out.lo
 have n1 : ¬ p = w.heap.size := by omega
 have n2 : ¬ w.heap.size = p := by omega
 cases h1 : regF x1 false with
 | none =>
  rw [h1] at hW1
  obtain ⟨rfl, rfl⟩ := hW1
  obtain ⟨t0, t1, t2, t3, t4, t5, t6, t7, t8, t9⟩ := itAt_row hF.out.res
  have tf := fun j => frozen_of_row w6 w.heap.size j _ 33 hF.out.res
  have hO : Hid (R0 = .error 20) := by
   show R0 = .error 20
   rw [<- hR0.out]
   simp only [opF, e0, stepF_r, h1]; try rfl
  go_wp2
  all_goals first | omega | skip
  obtain ⟨s1, s2⟩ := ten_set hF.out.res (.int .i64 0) (.string ⟨#[]⟩) (.int .i64 0) (.int .i64 0) (.int .i64 0) (.int .i32 0) (.int .i64 0) (.slice none 0 0) (.int .u32 0) (.int .i64 0)
  have hB9 := hF.out.bel.grown s2 hF.out.bel.size (fun j hj => by cases hj; exact Nat.le_refl _)
  have how9 := own_low hF.out.own s2 (by have := hF.out.lo; omega)
  generalize ((((((((((w6.setCell ⟨w.heap.size, 0, none⟩ (.int .i64 0)).setCell ⟨w.heap.size, 1, none⟩ (.string ⟨#[]⟩)).setCell ⟨w.heap.size, 2, none⟩ (.int .i64 0)).setCell ⟨w.heap.size, 3, none⟩ (.int .i64 0)).setCell ⟨w.heap.size, 4, none⟩ (.int .i64 0)).setCell ⟨w.heap.size, 5, none⟩ (.int .i32 0)).setCell ⟨w.heap.size, 6, none⟩ (.int .i64 0)).setCell ⟨w.heap.size, 7, none⟩ (.slice none 0 0)).setCell ⟨w.heap.size, 8, none⟩ (.int .u32 0)).setCell ⟨w.heap.size, 9, none⟩ (.int .i64 0)) = w9 at s1 s2 hB9 how9 ⊢
  obtain ⟨k0, k1, k2, k3, k4, k5, k6, k7, k8, k9⟩ := ten_read s1
  refine bodyPost_ret (by simp [results, Tryz.results54, go_sem, k0, k1, k2, k3, k4, k5, k6, k7, k8, k9]; try rfl) rfl ?_
  rw [hO.out]
  exact ⟨hB9, rfl⟩
 | some r1 =>
  rw [h1] at hW1
  obtain ⟨rfl, rfl⟩ := hW1
  have hr1 := regF_range h1
  obtain ⟨a2, c2, hc2, N2, E2, hW2, hcall2⟩ := regR [x1, x2] G 1 x2 true w6 _ rfl hF.out.ins
  generalize x2.length = l2 at hc2 hcall2
  replace hcall2 := Hid.intro hcall2
  go_upto_region 47 with (go_at_call 82; (with_reducible refine (hcall2.out).mono ?_); rintro e w7 ⟨rfl, hw7⟩; obtain rfl : w6 = w7 := hw7.symm)
  all_goals first | omega | skip
  replace hF := Hid.intro (hF.out.put (setReg 1 N2 (setReg 0 N1 (opItm op))) 4 (.int .i64 N2) rfl rfl)
  generalize (w6.setCell ⟨p, 4, none⟩ (.int .i64 N2)) = w7 at hF ⊢
  clear q0 q1 q2 q3 q4 q5 q6 q7 q8 q9 qf hc2 hcall2
  obtain ⟨q0, q1, q2, q3, q4, q5, q6, q7, q8, q9⟩ := itAt_row hF.out.row
  have qf := fun j => frozen_of_row w7 p j _ 33 hF.out.row
  have hlo := hF.out.lo
  have n1 : ¬ p = w.heap.size := by omega
  have n2 : ¬ w.heap.size = p := by omega
  cases h2 : regF x2 true with
  | none =>
   rw [h2] at hW2
   obtain ⟨rfl, rfl⟩ := hW2
   obtain ⟨t0, t1, t2, t3, t4, t5, t6, t7, t8, t9⟩ := itAt_row hF.out.res
   have tf := fun j => frozen_of_row w7 w.heap.size j _ 33 hF.out.res
   have hO : Hid (R0 = .error 20) := by
    show R0 = .error 20
    rw [<- hR0.out]
    simp only [opF, e0, e1, stepF_r, stepF_z, h1, h2]; try rfl
   go_wp2
   all_goals first | omega | skip
   obtain ⟨s1, s2⟩ := ten_set hF.out.res (.int .i64 0) (.string ⟨#[]⟩) (.int .i64 0) (.int .i64 0) (.int .i64 0) (.int .i32 0) (.int .i64 0) (.slice none 0 0) (.int .u32 0) (.int .i64 0)
   have hB9 := hF.out.bel.grown s2 hF.out.bel.size (fun j hj => by cases hj; exact Nat.le_refl _)
   have how9 := own_low hF.out.own s2 (by have := hF.out.lo; omega)
   generalize ((((((((((w7.setCell ⟨w.heap.size, 0, none⟩ (.int .i64 0)).setCell ⟨w.heap.size, 1, none⟩ (.string ⟨#[]⟩)).setCell ⟨w.heap.size, 2, none⟩ (.int .i64 0)).setCell ⟨w.heap.size, 3, none⟩ (.int .i64 0)).setCell ⟨w.heap.size, 4, none⟩ (.int .i64 0)).setCell ⟨w.heap.size, 5, none⟩ (.int .i32 0)).setCell ⟨w.heap.size, 6, none⟩ (.int .i64 0)).setCell ⟨w.heap.size, 7, none⟩ (.slice none 0 0)).setCell ⟨w.heap.size, 8, none⟩ (.int .u32 0)).setCell ⟨w.heap.size, 9, none⟩ (.int .i64 0)) = w9 at s1 s2 hB9 how9 ⊢
   obtain ⟨k0, k1, k2, k3, k4, k5, k6, k7, k8, k9⟩ := ten_read s1
   refine bodyPost_ret (by simp [results, Tryz.results54, go_sem, k0, k1, k2, k3, k4, k5, k6, k7, k8, k9]; try rfl) rfl ?_
   rw [hO.out]
   exact ⟨hB9, rfl⟩
  | some r2 =>
   rw [h2] at hW2
   obtain ⟨rfl, rfl⟩ := hW2
   obtain ⟨X, hX⟩ : ∃ X, setReg 1 N2 (setReg 0 N1 (opItm op)) = X := ⟨_, rfl⟩
   have hO : Hid (R0 = .ok { X with m := 0 }) := by
    show R0 = .ok { X with m := 0 }
    rw [<- hR0.out, <- hX]
    simp only [opF, e0, e1, stepF_r, stepF_z, h1, h2]; try rfl
   rw [hX] at hF
   clear hX
   clear q0 q1 q2 q3 q4 q5 q6 q7 q8 q9 qf
   obtain ⟨q0, q1, q2, q3, q4, q5, q6, q7, q8, q9⟩ := itAt_row hF.out.row
   have qf := fun j => frozen_of_row w7 p j _ 33 hF.out.row
   have hlo := hF.out.lo
   have n1 : ¬ p = w.heap.size := by omega
   have n2 : ¬ w.heap.size = p := by omega
   obtain ⟨t0, t1, t2, t3, t4, t5, t6, t7, t8, t9⟩ := itAt_row hF.out.res
   have tf := fun j => frozen_of_row w7 w.heap.size j _ 33 hF.out.res
   go_wp2
   all_goals first | omega | skip
   have hG := hF.out.put { X with m := 0 } 5 (.int .i32 0) rfl rfl
   generalize (w7.setCell ⟨p, 5, none⟩ (.int .i32 0)) = w8 at hG ⊢
   obtain ⟨s1, s2⟩ := ten_set hG.res (.int .i64 X.kind) (.string (str X.name)) (.int .i64 X.op) (.int .i64 X.a) (.int .i64 X.b) (.int .i32 0) (.int .i64 X.form) (.slice none 0 0) (.int .u32 X.e.const) (.int .i64 X.n)
   have hB9 := hG.bel.grown s2 hG.bel.size (fun j hj => by cases hj; exact Nat.le_refl _)
   have how9 := own_low hG.own s2 (by have := hG.lo; omega)
   generalize ((((((((((w8.setCell ⟨w.heap.size, 0, none⟩ (.int .i64 X.kind)).setCell ⟨w.heap.size, 1, none⟩ (.string (str X.name))).setCell ⟨w.heap.size, 2, none⟩ (.int .i64 X.op)).setCell ⟨w.heap.size, 3, none⟩ (.int .i64 X.a)).setCell ⟨w.heap.size, 4, none⟩ (.int .i64 X.b)).setCell ⟨w.heap.size, 5, none⟩ (.int .i32 0)).setCell ⟨w.heap.size, 6, none⟩ (.int .i64 X.form)).setCell ⟨w.heap.size, 7, none⟩ (.slice none 0 0)).setCell ⟨w.heap.size, 8, none⟩ (.int .u32 X.e.const)).setCell ⟨w.heap.size, 9, none⟩ (.int .i64 X.n)) = w9 at s1 s2 hB9 how9 ⊢
   obtain ⟨k0, k1, k2, k3, k4, k5, k6, k7, k8, k9⟩ := ten_read s1
   refine bodyPost_ret (by simp [results, Tryz.results54, go_sem, k0, k1, k2, k3, k4, k5, k6, k7, k8, k9]; try rfl) rfl ?_
   rw [hO.out]
   have hnl := own_len how9
   have hxt : X.e.terms = [] := List.eq_nil_of_length_eq_zero hnl.symm
   exact ⟨hB9, none, 0, 0, rfl, hnl, by show TmLies _ _ X.e.terms; rw [hxt]; exact TmLies.nil _ _⟩
set_option maxHeartbeats 2000000 in
theorem code_7 (op : Int) (hop : 1 <= op /\ op <= 43) (hS : shapeN op = 7) (a : Option Addr) (c : Nat) (x1 x2 x3 : List Tok) (w : World) (hA : RArgsIn w.heap.size w a [x1, x2, x3]) :
  Calls Tryz.prog 54 #[.int .i64 op, .slice a 3 c] w fun e w' => CodeOut w w' (opF (wantsF 7) [x1, x2, x3] 0 (opItm op)) e := by
 have hsh := fun w1 => shape_any op w1
 rw [hS] at hsh
 replace hsh := Hid.intro hsh
 have har : Hid (∀ w1 : World, Calls Tryz.prog 81 #[.int .i64 7] w1 fun e w' => e = .returned (.int .i64 3) /\ w' = w1) := fun w1 => refArgs_any 7 (by omega) w1
 obtain ⟨G, hG⟩ : ∃ G, a = some ⟨G, 0, none⟩ := by
  rcases hA.outer with h | ⟨G, h, _⟩
  ·cases h
  ·exact ⟨G, h⟩
 subst hG
 have e0 : atI (bs (str (wantsF 7))) 0 = 122 := rfl
 have e1 : atI (bs (str (wantsF 7))) (0 + 1) = 114 := rfl
 have e2 : atI (bs (str (wantsF 7))) ((0 + 1) + 1) = 114 := rfl
 obtain ⟨R0, hR0⟩ : ∃ R0, opF (wantsF 7) [x1, x2, x3] 0 (opItm op) = R0 := ⟨_, rfl⟩
 rw [hR0]
 replace hR0 := Hid.intro hR0
 have hAH := Hid.intro hA
 clear hA hS
 go_enter Tryz.func54, Tryz.ntmps54
 go_upto_region 20 with (first | (go_at_call 60; (with_reducible refine (hsh.out _).mono ?_); rintro e w1 ⟨rfl, hb1⟩; have hC := Hid.intro (cs2_new hAH.out op hb1)) | (go_at_call 81; (with_reducible refine (har.out _).mono ?_); rintro e w2 ⟨rfl, hw2⟩; obtain rfl : w1 = w2 := hw2.symm))
 all_goals first | omega | skip
 obtain ⟨p, hp⟩ : ∃ p, p = w1.heap.size := ⟨_, rfl⟩
 rw [<- hp] at hC ⊢
 generalize (w1.alloc (.cells #[.int .i64 2, .string ⟨#[]⟩, .int .i64 op, .int .i64 0, .int .i64 0, .int .i32 0, .int .i64 0, .slice none 0 0, .int .u32 0, .int .i64 0] 33)) = w3 at hC ⊢
 clear hp hb1
 obtain ⟨a1, c1, hc1, N1, E1, hW1, hcall1⟩ := regR [x1, x2, x3] G 0 x1 true w3 _ rfl hC.out.ins
 generalize x1.length = l1 at hc1 hcall1
 replace hcall1 := Hid.intro hcall1
 obtain ⟨q0, q1, q2, q3, q4, q5, q6, q7, q8, q9⟩ := itAt_row hC.out.row
 have qf := fun j => frozen_of_row w3 p j _ 33 hC.out.row
 have hlo := hC.out.lo
 have n1 : ¬ p = w.heap.size := by omega
 have n2 : ¬ w.heap.size = p := by omega
 go_upto_region 22 with (go_at_call 82; (with_reducible refine (hcall1.out).mono ?_); rintro e w5 ⟨rfl, hw5⟩; obtain rfl : w3 = w5 := hw5.symm)
 all_goals first | omega | skip
 have hF := Hid.intro (hC.out.put (setReg 0 N1 (opItm op)) 3 (.int .i64 N1) rfl rfl)
 generalize (w3.setCell ⟨p, 3, none⟩ (.int .i64 N1)) = w6 at hF ⊢
 clear q0 q1 q2 q3 q4 q5 q6 q7 q8 q9 qf hc1 hcall1 hC
 obtain ⟨q0, q1, q2, q3, q4, q5, q6, q7, q8, q9⟩ := itAt_row hF.out.row
 have qf := fun j => frozen_of_row w6 p j _ 33 hF.out.row
 have hlo := hF.out.lo
 have n1 : ¬ p = w.heap.size := by omega
 have n2 : ¬ w.heap.size = p := by omega
 cases h1 : regF x1 true with
 | none =>
  rw [h1] at hW1
  obtain ⟨rfl, rfl⟩ := hW1
  obtain ⟨t0, t1, t2, t3, t4, t5, t6, t7, t8, t9⟩ := itAt_row hF.out.res
  have tf := fun j => frozen_of_row w6 w.heap.size j _ 33 hF.out.res
  have hO : Hid (R0 = .error 20) := by
   show R0 = .error 20
   rw [<- hR0.out]
   simp only [opF, e0, stepF_z, h1]; try rfl
  go_wp2
  all_goals first | omega | skip
  obtain ⟨s1, s2⟩ := ten_set hF.out.res (.int .i64 0) (.string ⟨#[]⟩) (.int .i64 0) (.int .i64 0) (.int .i64 0) (.int .i32 0) (.int .i64 0) (.slice none 0 0) (.int .u32 0) (.int .i64 0)
  have hB9 := hF.out.bel.grown s2 hF.out.bel.size (fun j hj => by cases hj; exact Nat.le_refl _)
  have how9 := own_low hF.out.own s2 (by have := hF.out.lo; omega)
  generalize ((((((((((w6.setCell ⟨w.heap.size, 0, none⟩ (.int .i64 0)).setCell ⟨w.heap.size, 1, none⟩ (.string ⟨#[]⟩)).setCell ⟨w.heap.size, 2, none⟩ (.int .i64 0)).setCell ⟨w.heap.size, 3, none⟩ (.int .i64 0)).setCell ⟨w.heap.size, 4, none⟩ (.int .i64 0)).setCell ⟨w.heap.size, 5, none⟩ (.int .i32 0)).setCell ⟨w.heap.size, 6, none⟩ (.int .i64 0)).setCell ⟨w.heap.size, 7, none⟩ (.slice none 0 0)).setCell ⟨w.heap.size, 8, none⟩ (.int .u32 0)).setCell ⟨w.heap.size, 9, none⟩ (.int .i64 0)) = w9 at s1 s2 hB9 how9 ⊢
  obtain ⟨k0, k1, k2, k3, k4, k5, k6, k7, k8, k9⟩ := ten_read s1
  refine bodyPost_ret (by simp [results, Tryz.results54, go_sem, k0, k1, k2, k3, k4, k5, k6, k7, k8, k9]; try rfl) rfl ?_
  rw [hO.out]
  exact ⟨hB9, rfl⟩
 | some r1 =>
  rw [h1] at hW1
  obtain ⟨rfl, rfl⟩ := hW1
  have hr1 := regF_range h1
  obtain ⟨a2, c2, hc2, N2, E2, hW2, hcall2⟩ := regR [x1, x2, x3] G 1 x2 false w6 _ rfl hF.out.ins
  generalize x2.length = l2 at hc2 hcall2
  replace hcall2 := Hid.intro hcall2
  go_upto_region 33 with (go_at_call 82; (with_reducible refine (hcall2.out).mono ?_); rintro e w7 ⟨rfl, hw7⟩; obtain rfl : w6 = w7 := hw7.symm)
  all_goals first | omega | skip
  replace hF := Hid.intro (hF.out.put (setReg 1 N2 (setReg 0 N1 (opItm op))) 4 (.int .i64 N2) rfl rfl)
  generalize (w6.setCell ⟨p, 4, none⟩ (.int .i64 N2)) = w7 at hF ⊢
  clear q0 q1 q2 q3 q4 q5 q6 q7 q8 q9 qf hc2 hcall2
  obtain ⟨q0, q1, q2, q3, q4, q5, q6, q7, q8, q9⟩ := itAt_row hF.out.row
  have qf := fun j => frozen_of_row w7 p j _ 33 hF.out.row
  have hlo := hF.out.lo
  have n1 : ¬ p = w.heap.size := by omega
  have n2 : ¬ w.heap.size = p := by omega
  cases h2 : regF x2 false with
  | none =>
   rw [h2] at hW2
   obtain ⟨rfl, rfl⟩ := hW2
   obtain ⟨t0, t1, t2, t3, t4, t5, t6, t7, t8, t9⟩ := itAt_row hF.out.res
   have tf := fun j => frozen_of_row w7 w.heap.size j _ 33 hF.out.res
   have hO : Hid (R0 = .error 20) := by
    show R0 = .error 20
    rw [<- hR0.out]
    simp only [opF, e0, e1, stepF_z, stepF_r, h1, h2]; try rfl
   go_wp2
   all_goals first | omega | skip
   obtain ⟨s1, s2⟩ := ten_set hF.out.res (.int .i64 0) (.string ⟨#[]⟩) (.int .i64 0) (.int .i64 0) (.int .i64 0) (.int .i32 0) (.int .i64 0) (.slice none 0 0) (.int .u32 0) (.int .i64 0)
   have hB9 := hF.out.bel.grown s2 hF.out.bel.size (fun j hj => by cases hj; exact Nat.le_refl _)
   have how9 := own_low hF.out.own s2 (by have := hF.out.lo; omega)
   generalize ((((((((((w7.setCell ⟨w.heap.size, 0, none⟩ (.int .i64 0)).setCell ⟨w.heap.size, 1, none⟩ (.string ⟨#[]⟩)).setCell ⟨w.heap.size, 2, none⟩ (.int .i64 0)).setCell ⟨w.heap.size, 3, none⟩ (.int .i64 0)).setCell ⟨w.heap.size, 4, none⟩ (.int .i64 0)).setCell ⟨w.heap.size, 5, none⟩ (.int .i32 0)).setCell ⟨w.heap.size, 6, none⟩ (.int .i64 0)).setCell ⟨w.heap.size, 7, none⟩ (.slice none 0 0)).setCell ⟨w.heap.size, 8, none⟩ (.int .u32 0)).setCell ⟨w.heap.size, 9, none⟩ (.int .i64 0)) = w9 at s1 s2 hB9 how9 ⊢
   obtain ⟨k0, k1, k2, k3, k4, k5, k6, k7, k8, k9⟩ := ten_read s1
   refine bodyPost_ret (by simp [results, Tryz.results54, go_sem, k0, k1, k2, k3, k4, k5, k6, k7, k8, k9]; try rfl) rfl ?_
   rw [hO.out]
   exact ⟨hB9, rfl⟩
  | some r2 =>
   rw [h2] at hW2
   obtain ⟨rfl, rfl⟩ := hW2
   obtain ⟨a3, c3, hc3, N3, E3, hW3, hcall3⟩ := regR [x1, x2, x3] G 2 x3 false w7 _ rfl hF.out.ins
   generalize x3.length = l3 at hc3 hcall3
   replace hcall3 := Hid.intro hcall3
   go_upto_region 47 with (go_at_call 82; (with_reducible refine (hcall3.out).mono ?_); rintro e w8 ⟨rfl, hw8⟩; obtain rfl : w7 = w8 := hw8.symm)
   all_goals first | omega | skip
   clear hc3 hcall3
   cases h3 : regF x3 false with
   | none =>
    rw [h3] at hW3
    obtain ⟨rfl, rfl⟩ := hW3
    obtain ⟨t0, t1, t2, t3, t4, t5, t6, t7, t8, t9⟩ := itAt_row hF.out.res
    have tf := fun j => frozen_of_row w7 w.heap.size j _ 33 hF.out.res
    have hO : Hid (R0 = .error 20) := by
     show R0 = .error 20
     rw [<- hR0.out]
     simp only [opF, e0, e1, e2, stepF_z, stepF_r, h1, h2, h3]; try rfl
    go_wp2
    all_goals first | omega | skip
    obtain ⟨s1, s2⟩ := ten_set hF.out.res (.int .i64 0) (.string ⟨#[]⟩) (.int .i64 0) (.int .i64 0) (.int .i64 0) (.int .i32 0) (.int .i64 0) (.slice none 0 0) (.int .u32 0) (.int .i64 0)
    have hB9 := hF.out.bel.grown s2 hF.out.bel.size (fun j hj => by cases hj; exact Nat.le_refl _)
    have how9 := own_low hF.out.own s2 (by have := hF.out.lo; omega)
    generalize ((((((((((w7.setCell ⟨w.heap.size, 0, none⟩ (.int .i64 0)).setCell ⟨w.heap.size, 1, none⟩ (.string ⟨#[]⟩)).setCell ⟨w.heap.size, 2, none⟩ (.int .i64 0)).setCell ⟨w.heap.size, 3, none⟩ (.int .i64 0)).setCell ⟨w.heap.size, 4, none⟩ (.int .i64 0)).setCell ⟨w.heap.size, 5, none⟩ (.int .i32 0)).setCell ⟨w.heap.size, 6, none⟩ (.int .i64 0)).setCell ⟨w.heap.size, 7, none⟩ (.slice none 0 0)).setCell ⟨w.heap.size, 8, none⟩ (.int .u32 0)).setCell ⟨w.heap.size, 9, none⟩ (.int .i64 0)) = w9 at s1 s2 hB9 how9 ⊢
    obtain ⟨k0, k1, k2, k3, k4, k5, k6, k7, k8, k9⟩ := ten_read s1
    refine bodyPost_ret (by simp [results, Tryz.results54, go_sem, k0, k1, k2, k3, k4, k5, k6, k7, k8, k9]; try rfl) rfl ?_
    rw [hO.out]
    exact ⟨hB9, rfl⟩
   | some r3 =>
    rw [h3] at hW3
    obtain ⟨rfl, rfl⟩ := hW3
    have hr3 := regF_range h3
    have hw32 : IntKind.i32.wrap N3 = N3 := by rw [IntKind.wrap_i32]; omega
    obtain ⟨X, hX⟩ : ∃ X, setReg 1 N2 (setReg 0 N1 (opItm op)) = X := ⟨_, rfl⟩
    have hO : Hid (R0 = .ok { X with m := N3 }) := by
     show R0 = .ok { X with m := N3 }
     rw [<- hR0.out, <- hX]
     simp only [opF, e0, e1, e2, stepF_z, stepF_r, h1, h2, h3]; try rfl
    rw [hX] at hF
    clear hX
    clear q0 q1 q2 q3 q4 q5 q6 q7 q8 q9 qf
    obtain ⟨q0, q1, q2, q3, q4, q5, q6, q7, q8, q9⟩ := itAt_row hF.out.row
    have qf := fun j => frozen_of_row w7 p j _ 33 hF.out.row
    have hlo := hF.out.lo
    have n1 : ¬ p = w.heap.size := by omega
    have n2 : ¬ w.heap.size = p := by omega
    obtain ⟨t0, t1, t2, t3, t4, t5, t6, t7, t8, t9⟩ := itAt_row hF.out.res
    have tf := fun j => frozen_of_row w7 w.heap.size j _ 33 hF.out.res
    go_wp2
    all_goals first | omega | skip
    have hG := hF.out.put { X with m := N3 } 5 (.int .i32 N3) rfl rfl
    generalize (w7.setCell ⟨p, 5, none⟩ (.int .i32 N3)) = w8 at hG ⊢
    obtain ⟨s1, s2⟩ := ten_set hG.res (.int .i64 X.kind) (.string (str X.name)) (.int .i64 X.op) (.int .i64 X.a) (.int .i64 X.b) (.int .i32 N3) (.int .i64 X.form) (.slice none 0 0) (.int .u32 X.e.const) (.int .i64 X.n)
    have hB9 := hG.bel.grown s2 hG.bel.size (fun j hj => by cases hj; exact Nat.le_refl _)
    have how9 := own_low hG.own s2 (by have := hG.lo; omega)
    generalize ((((((((((w8.setCell ⟨w.heap.size, 0, none⟩ (.int .i64 X.kind)).setCell ⟨w.heap.size, 1, none⟩ (.string (str X.name))).setCell ⟨w.heap.size, 2, none⟩ (.int .i64 X.op)).setCell ⟨w.heap.size, 3, none⟩ (.int .i64 X.a)).setCell ⟨w.heap.size, 4, none⟩ (.int .i64 X.b)).setCell ⟨w.heap.size, 5, none⟩ (.int .i32 N3)).setCell ⟨w.heap.size, 6, none⟩ (.int .i64 X.form)).setCell ⟨w.heap.size, 7, none⟩ (.slice none 0 0)).setCell ⟨w.heap.size, 8, none⟩ (.int .u32 X.e.const)).setCell ⟨w.heap.size, 9, none⟩ (.int .i64 X.n)) = w9 at s1 s2 hB9 how9 ⊢
    obtain ⟨k0, k1, k2, k3, k4, k5, k6, k7, k8, k9⟩ := ten_read s1
    refine bodyPost_ret (by simp [results, Tryz.results54, go_sem, k0, k1, k2, k3, k4, k5, k6, k7, k8, k9]; try rfl) rfl ?_
    rw [hO.out]
    have hnl := own_len how9
    have hxt : X.e.terms = [] := List.eq_nil_of_length_eq_zero hnl.symm
    exact ⟨hB9, none, 0, 0, rfl, hnl, by show TmLies _ _ X.e.terms; rw [hxt]; exact TmLies.nil _ _⟩
end Go.Proofs.YtlkmegchaeokgaaGreatDoor
/- The document's code, by shapes. -/
namespace Go.Proofs.YtlkmegchaeokgaaGreatDoor
open Go.ChangeShapes Go.WideShapes Go.ChangeAt Go.RowKit
set_option linter.unusedVariables false
set_option maxRecDepth 100000
set_option maxHeartbeats 2000000 in
theorem code_8 (op : Int) (hop : 1 <= op /\ op <= 43) (hS : shapeN op = 8) (a : Option Addr) (c : Nat) (x1 x2 : List Tok) (w : World) (hA : RArgsIn w.heap.size w a [x1, x2]) :
  Calls Tryz.prog 54 #[.int .i64 op, .slice a 2 c] w fun e w' => CodeOut w w' (opF (wantsF 8) [x1, x2] 0 (opItm op)) e := by
 have hsh := fun w1 => shape_any op w1
 rw [hS] at hsh
 replace hsh := Hid.intro hsh
 have har : Hid (∀ w1 : World, Calls Tryz.prog 81 #[.int .i64 8] w1 fun e w' => e = .returned (.int .i64 2) /\ w' = w1) := fun w1 => refArgs_any 8 (by omega) w1
 obtain ⟨G, hG⟩ : ∃ G, a = some ⟨G, 0, none⟩ := by
  rcases hA.outer with h | ⟨G, h, _⟩
  ·cases h
  ·exact ⟨G, h⟩
 subst hG
 have e0 : atI (bs (str (wantsF 8))) 0 = 114 := rfl
 have e1 : atI (bs (str (wantsF 8))) (0 + 1) = 110 := rfl
 obtain ⟨R0, hR0⟩ : ∃ R0, opF (wantsF 8) [x1, x2] 0 (opItm op) = R0 := ⟨_, rfl⟩
 rw [hR0]
 replace hR0 := Hid.intro hR0
 have hAH := Hid.intro hA
 clear hA
 go_enter Tryz.func54, Tryz.ntmps54
 go_upto_region 15 with (first | (go_at_call 60; (with_reducible refine (hsh.out _).mono ?_); rintro e w1 ⟨rfl, hb1⟩; have hC := Hid.intro (cs2_new hAH.out op hb1)) | (go_at_call 81; (with_reducible refine (har.out _).mono ?_); rintro e w2 ⟨rfl, hw2⟩; obtain rfl : w1 = w2 := hw2.symm))
 all_goals first | omega | skip
 obtain ⟨p, hp⟩ : ∃ p, p = w1.heap.size := ⟨_, rfl⟩
 rw [<- hp] at hC ⊢
 generalize (w1.alloc (.cells #[.int .i64 2, .string ⟨#[]⟩, .int .i64 op, .int .i64 0, .int .i64 0, .int .i32 0, .int .i64 0, .slice none 0 0, .int .u32 0, .int .i64 0] 33)) = w3 at hC ⊢
 clear hp hb1
 obtain ⟨a1, c1, hc1, N1, E1, hW1, hcall1⟩ := regR [x1, x2] G 0 x1 false w3 _ rfl hC.out.ins
 generalize x1.length = l1 at hc1 hcall1
 replace hcall1 := Hid.intro hcall1
 obtain ⟨q0, q1, q2, q3, q4, q5, q6, q7, q8, q9⟩ := itAt_row hC.out.row
 have qf := fun j => frozen_of_row w3 p j _ 33 hC.out.row
 have hlo := hC.out.lo
 have n1 : ¬ p = w.heap.size := by omega
 have n2 : ¬ w.heap.size = p := by omega
 go_upto_region 22 with (go_at_call 82; (with_reducible refine (hcall1.out).mono ?_); rintro e w5 ⟨rfl, hw5⟩; obtain rfl : w3 = w5 := hw5.symm)
 all_goals first | omega | skip
 have hF := Hid.intro (hC.out.put (setReg 0 N1 (opItm op)) 3 (.int .i64 N1) rfl rfl)
 generalize (w3.setCell ⟨p, 3, none⟩ (.int .i64 N1)) = w6 at hF ⊢
 clear q0 q1 q2 q3 q4 q5 q6 q7 q8 q9 qf hc1 hcall1 hC
 obtain ⟨q0, q1, q2, q3, q4, q5, q6, q7, q8, q9⟩ := itAt_row hF.out.row
 have qf := fun j => frozen_of_row w6 p j _ 33 hF.out.row
 have hlo := hF.out.lo
 have n1 : ¬ p = w.heap.size := by omega
 have n2 : ¬ w.heap.size = p := by omega
 cases h1 : regF x1 false with
 | none =>
  rw [h1] at hW1
  obtain ⟨rfl, rfl⟩ := hW1
  obtain ⟨t0, t1, t2, t3, t4, t5, t6, t7, t8, t9⟩ := itAt_row hF.out.res
  have tf := fun j => frozen_of_row w6 w.heap.size j _ 33 hF.out.res
  have hO : Hid (R0 = .error 20) := by
   show R0 = .error 20
   rw [<- hR0.out]
   simp only [opF, e0, stepF_r, h1]; try rfl
  go_wp2
  all_goals first | omega | skip
  obtain ⟨s1, s2⟩ := ten_set hF.out.res (.int .i64 0) (.string ⟨#[]⟩) (.int .i64 0) (.int .i64 0) (.int .i64 0) (.int .i32 0) (.int .i64 0) (.slice none 0 0) (.int .u32 0) (.int .i64 0)
  have hB9 := hF.out.bel.grown s2 hF.out.bel.size (fun j hj => by cases hj; exact Nat.le_refl _)
  have how9 := own_low hF.out.own s2 (by have := hF.out.lo; omega)
  generalize ((((((((((w6.setCell ⟨w.heap.size, 0, none⟩ (.int .i64 0)).setCell ⟨w.heap.size, 1, none⟩ (.string ⟨#[]⟩)).setCell ⟨w.heap.size, 2, none⟩ (.int .i64 0)).setCell ⟨w.heap.size, 3, none⟩ (.int .i64 0)).setCell ⟨w.heap.size, 4, none⟩ (.int .i64 0)).setCell ⟨w.heap.size, 5, none⟩ (.int .i32 0)).setCell ⟨w.heap.size, 6, none⟩ (.int .i64 0)).setCell ⟨w.heap.size, 7, none⟩ (.slice none 0 0)).setCell ⟨w.heap.size, 8, none⟩ (.int .u32 0)).setCell ⟨w.heap.size, 9, none⟩ (.int .i64 0)) = w9 at s1 s2 hB9 how9 ⊢
  obtain ⟨k0, k1, k2, k3, k4, k5, k6, k7, k8, k9⟩ := ten_read s1
  refine bodyPost_ret (by simp [results, Tryz.results54, go_sem, k0, k1, k2, k3, k4, k5, k6, k7, k8, k9]; try rfl) rfl ?_
  rw [hO.out]
  exact ⟨hB9, rfl⟩
 | some r1 =>
  rw [h1] at hW1
  obtain ⟨rfl, rfl⟩ := hW1
  have hr1 := regF_range h1
  obtain ⟨a2, c2, hc2, N2, E2, hW2, hcall2⟩ := conR [x1, x2] G 1 x2 (-128) 127 w6 _ rfl hF.out.ins
  generalize x2.length = l2 at hc2 hcall2
  replace hcall2 := Hid.intro hcall2
  go_upto_region 47 with (go_at_call 83; (with_reducible refine (hcall2.out).mono ?_); rintro e w7 ⟨rfl, hb7⟩)
  all_goals first | omega | skip
  have hF7 := Hid.intro (hF.out.below hb7)
  clear q0 q1 q2 q3 q4 q5 q6 q7 q8 q9 qf hc2 hcall2 hF
  obtain ⟨q0, q1, q2, q3, q4, q5, q6, q7, q8, q9⟩ := itAt_row hF7.out.row
  have qf := fun j => frozen_of_row w7 p j _ 33 hF7.out.row
  have hlo := hF7.out.lo
  have n1 : ¬ p = w.heap.size := by omega
  have n2 : ¬ w.heap.size = p := by omega
  cases h2 : rconF x2 (-128) 127 with
  | error k2 =>
   rw [h2] at hW2
   obtain rfl : E2 = k2 := hW2
   have hk2 : (E2 == 0) = false := by rcases rcon_err h2 with rfl | rfl <;> rfl
   obtain ⟨t0, t1, t2, t3, t4, t5, t6, t7, t8, t9⟩ := itAt_row hF7.out.res
   have tf := fun j => frozen_of_row w7 w.heap.size j _ 33 hF7.out.res
   have hO : Hid (R0 = .error E2) := by
    show R0 = .error E2
    rw [<- hR0.out]
    exact small_bad hop hS h1 h2
   go_wp2
   all_goals first | omega | skip
   obtain ⟨s1, s2⟩ := ten_set hF7.out.res (.int .i64 0) (.string ⟨#[]⟩) (.int .i64 0) (.int .i64 0) (.int .i64 0) (.int .i32 0) (.int .i64 0) (.slice none 0 0) (.int .u32 0) (.int .i64 0)
   have hB9 := hF7.out.bel.grown s2 hF7.out.bel.size (fun j hj => by cases hj; exact Nat.le_refl _)
   have how9 := own_low hF7.out.own s2 (by have := hF7.out.lo; omega)
   generalize ((((((((((w7.setCell ⟨w.heap.size, 0, none⟩ (.int .i64 0)).setCell ⟨w.heap.size, 1, none⟩ (.string ⟨#[]⟩)).setCell ⟨w.heap.size, 2, none⟩ (.int .i64 0)).setCell ⟨w.heap.size, 3, none⟩ (.int .i64 0)).setCell ⟨w.heap.size, 4, none⟩ (.int .i64 0)).setCell ⟨w.heap.size, 5, none⟩ (.int .i32 0)).setCell ⟨w.heap.size, 6, none⟩ (.int .i64 0)).setCell ⟨w.heap.size, 7, none⟩ (.slice none 0 0)).setCell ⟨w.heap.size, 8, none⟩ (.int .u32 0)).setCell ⟨w.heap.size, 9, none⟩ (.int .i64 0)) = w9 at s1 s2 hB9 how9 ⊢
   obtain ⟨k0, k1, k2, k3, k4, k5, k6, k7, k8, k9⟩ := ten_read s1
   refine bodyPost_ret (by simp [results, Tryz.results54, go_sem, k0, k1, k2, k3, k4, k5, k6, k7, k8, k9]; try rfl) rfl ?_
   rw [hO.out]
   exact ⟨hB9, rfl⟩
  | ok r2 =>
   rw [h2] at hW2
   obtain ⟨rfl, rfl⟩ := hW2
   have hr2 := rcon_range h2
   have hw32 : IntKind.i32.wrap N2 = N2 := by rw [IntKind.wrap_i32]; omega
   obtain ⟨X, hX⟩ : ∃ X, setReg 0 N1 (opItm op) = X := ⟨_, rfl⟩
   have hO : Hid (R0 = .ok { X with m := N2 }) := by
    show R0 = .ok { X with m := N2 }
    rw [<- hR0.out, <- hX]
    exact small_good hop hS h1 h2
   rw [hX] at hF7
   clear hX
   clear q0 q1 q2 q3 q4 q5 q6 q7 q8 q9 qf
   obtain ⟨q0, q1, q2, q3, q4, q5, q6, q7, q8, q9⟩ := itAt_row hF7.out.row
   have qf := fun j => frozen_of_row w7 p j _ 33 hF7.out.row
   have hlo := hF7.out.lo
   have n1 : ¬ p = w.heap.size := by omega
   have n2 : ¬ w.heap.size = p := by omega
   obtain ⟨t0, t1, t2, t3, t4, t5, t6, t7, t8, t9⟩ := itAt_row hF7.out.res
   have tf := fun j => frozen_of_row w7 w.heap.size j _ 33 hF7.out.res
   go_wp2
   all_goals first | omega | skip
   have hG := hF7.out.put { X with m := N2 } 5 (.int .i32 N2) rfl rfl
   generalize (w7.setCell ⟨p, 5, none⟩ (.int .i32 N2)) = w8 at hG ⊢
   obtain ⟨s1, s2⟩ := ten_set hG.res (.int .i64 X.kind) (.string (str X.name)) (.int .i64 X.op) (.int .i64 X.a) (.int .i64 X.b) (.int .i32 N2) (.int .i64 X.form) (.slice none 0 0) (.int .u32 X.e.const) (.int .i64 X.n)
   have hB9 := hG.bel.grown s2 hG.bel.size (fun j hj => by cases hj; exact Nat.le_refl _)
   have how9 := own_low hG.own s2 (by have := hG.lo; omega)
   generalize ((((((((((w8.setCell ⟨w.heap.size, 0, none⟩ (.int .i64 X.kind)).setCell ⟨w.heap.size, 1, none⟩ (.string (str X.name))).setCell ⟨w.heap.size, 2, none⟩ (.int .i64 X.op)).setCell ⟨w.heap.size, 3, none⟩ (.int .i64 X.a)).setCell ⟨w.heap.size, 4, none⟩ (.int .i64 X.b)).setCell ⟨w.heap.size, 5, none⟩ (.int .i32 N2)).setCell ⟨w.heap.size, 6, none⟩ (.int .i64 X.form)).setCell ⟨w.heap.size, 7, none⟩ (.slice none 0 0)).setCell ⟨w.heap.size, 8, none⟩ (.int .u32 X.e.const)).setCell ⟨w.heap.size, 9, none⟩ (.int .i64 X.n)) = w9 at s1 s2 hB9 how9 ⊢
   obtain ⟨k0, k1, k2, k3, k4, k5, k6, k7, k8, k9⟩ := ten_read s1
   refine bodyPost_ret (by simp [results, Tryz.results54, go_sem, k0, k1, k2, k3, k4, k5, k6, k7, k8, k9]; try rfl) rfl ?_
   rw [hO.out]
   have hnl := own_len how9
   have hxt : X.e.terms = [] := List.eq_nil_of_length_eq_zero hnl.symm
   exact ⟨hB9, none, 0, 0, rfl, hnl, by show TmLies _ _ X.e.terms; rw [hxt]; exact TmLies.nil _ _⟩
set_option maxHeartbeats 2000000 in
theorem code_9 (op : Int) (hop : 1 <= op /\ op <= 43) (hS : shapeN op = 9) (a : Option Addr) (c : Nat) (x1 : List Tok) (w : World) (hA : RArgsIn w.heap.size w a [x1]) :
  Calls Tryz.prog 54 #[.int .i64 op, .slice a 1 c] w fun e w' => CodeOut w w' (opF (wantsF 9) [x1] 0 (opItm op)) e := by
 have hsh := fun w1 => shape_any op w1
 rw [hS] at hsh
 replace hsh := Hid.intro hsh
 have har : Hid (∀ w1 : World, Calls Tryz.prog 81 #[.int .i64 9] w1 fun e w' => e = .returned (.int .i64 1) /\ w' = w1) := fun w1 => refArgs_any 9 (by omega) w1
 obtain ⟨G, hG⟩ : ∃ G, a = some ⟨G, 0, none⟩ := by
  rcases hA.outer with h | ⟨G, h, _⟩
  ·cases h
  ·exact ⟨G, h⟩
 subst hG
 have e0 : atI (bs (str (wantsF 9))) 0 = 110 := rfl
 obtain ⟨R0, hR0⟩ : ∃ R0, opF (wantsF 9) [x1] 0 (opItm op) = R0 := ⟨_, rfl⟩
 rw [hR0]
 replace hR0 := Hid.intro hR0
 have hAH := Hid.intro hA
 clear hA
 go_enter Tryz.func54, Tryz.ntmps54
 go_upto_region 22 with (first | (go_at_call 60; (with_reducible refine (hsh.out _).mono ?_); rintro e w1 ⟨rfl, hb1⟩; have hC := Hid.intro (cs2_new hAH.out op hb1)) | (go_at_call 81; (with_reducible refine (har.out _).mono ?_); rintro e w2 ⟨rfl, hw2⟩; obtain rfl : w1 = w2 := hw2.symm))
 all_goals first | omega | skip
 obtain ⟨p, hp⟩ : ∃ p, p = w1.heap.size := ⟨_, rfl⟩
 rw [<- hp] at hC ⊢
 generalize (w1.alloc (.cells #[.int .i64 2, .string ⟨#[]⟩, .int .i64 op, .int .i64 0, .int .i64 0, .int .i32 0, .int .i64 0, .slice none 0 0, .int .u32 0, .int .i64 0] 33)) = w3 at hC ⊢
 clear hp hb1
 obtain ⟨q0, q1, q2, q3, q4, q5, q6, q7, q8, q9⟩ := itAt_row hC.out.row
 have qf := fun j => frozen_of_row w3 p j _ 33 hC.out.row
 have hlo := hC.out.lo
 have n1 : ¬ p = w.heap.size := by omega
 have n2 : ¬ w.heap.size = p := by omega
 obtain ⟨a2, c2, hc2, N2, E2, hW2, hcall2⟩ := conR [x1] G 0 x1 (0) 255 w3 _ rfl hC.out.ins
 generalize x1.length = l2 at hc2 hcall2
 replace hcall2 := Hid.intro hcall2
 go_upto_region 47 with (go_at_call 83; (with_reducible refine (hcall2.out).mono ?_); rintro e w7 ⟨rfl, hb7⟩)
 all_goals first | omega | skip
 have hF7 := Hid.intro (hC.out.below hb7)
 clear q0 q1 q2 q3 q4 q5 q6 q7 q8 q9 qf hc2 hcall2 hC
 obtain ⟨q0, q1, q2, q3, q4, q5, q6, q7, q8, q9⟩ := itAt_row hF7.out.row
 have qf := fun j => frozen_of_row w7 p j _ 33 hF7.out.row
 have hlo := hF7.out.lo
 have n1 : ¬ p = w.heap.size := by omega
 have n2 : ¬ w.heap.size = p := by omega
 cases h2 : rconF x1 (0) 255 with
 | error k2 =>
  rw [h2] at hW2
  obtain rfl : E2 = k2 := hW2
  have hk2 : (E2 == 0) = false := by rcases rcon_err h2 with rfl | rfl <;> rfl
  obtain ⟨t0, t1, t2, t3, t4, t5, t6, t7, t8, t9⟩ := itAt_row hF7.out.res
  have tf := fun j => frozen_of_row w7 w.heap.size j _ 33 hF7.out.res
  have hO : Hid (R0 = .error E2) := by
   show R0 = .error E2
   rw [<- hR0.out]
   exact own_bad hop hS h2
  go_wp2
  all_goals first | omega | skip
  obtain ⟨s1, s2⟩ := ten_set hF7.out.res (.int .i64 0) (.string ⟨#[]⟩) (.int .i64 0) (.int .i64 0) (.int .i64 0) (.int .i32 0) (.int .i64 0) (.slice none 0 0) (.int .u32 0) (.int .i64 0)
  have hB9 := hF7.out.bel.grown s2 hF7.out.bel.size (fun j hj => by cases hj; exact Nat.le_refl _)
  have how9 := own_low hF7.out.own s2 (by have := hF7.out.lo; omega)
  generalize ((((((((((w7.setCell ⟨w.heap.size, 0, none⟩ (.int .i64 0)).setCell ⟨w.heap.size, 1, none⟩ (.string ⟨#[]⟩)).setCell ⟨w.heap.size, 2, none⟩ (.int .i64 0)).setCell ⟨w.heap.size, 3, none⟩ (.int .i64 0)).setCell ⟨w.heap.size, 4, none⟩ (.int .i64 0)).setCell ⟨w.heap.size, 5, none⟩ (.int .i32 0)).setCell ⟨w.heap.size, 6, none⟩ (.int .i64 0)).setCell ⟨w.heap.size, 7, none⟩ (.slice none 0 0)).setCell ⟨w.heap.size, 8, none⟩ (.int .u32 0)).setCell ⟨w.heap.size, 9, none⟩ (.int .i64 0)) = w9 at s1 s2 hB9 how9 ⊢
  obtain ⟨k0, k1, k2, k3, k4, k5, k6, k7, k8, k9⟩ := ten_read s1
  refine bodyPost_ret (by simp [results, Tryz.results54, go_sem, k0, k1, k2, k3, k4, k5, k6, k7, k8, k9]; try rfl) rfl ?_
  rw [hO.out]
  exact ⟨hB9, rfl⟩
 | ok r2 =>
  rw [h2] at hW2
  obtain ⟨rfl, rfl⟩ := hW2
  have hr2 := rcon_range h2
  have hw32 : IntKind.i32.wrap N2 = N2 := by rw [IntKind.wrap_i32]; omega
  obtain ⟨X, hX⟩ : ∃ X, opItm op = X := ⟨_, rfl⟩
  have hO : Hid (R0 = .ok { X with m := N2 }) := by
   show R0 = .ok { X with m := N2 }
   rw [<- hR0.out, <- hX]
   exact own_good hop hS h2
  rw [hX] at hF7
  clear hX
  clear q0 q1 q2 q3 q4 q5 q6 q7 q8 q9 qf
  obtain ⟨q0, q1, q2, q3, q4, q5, q6, q7, q8, q9⟩ := itAt_row hF7.out.row
  have qf := fun j => frozen_of_row w7 p j _ 33 hF7.out.row
  have hlo := hF7.out.lo
  have n1 : ¬ p = w.heap.size := by omega
  have n2 : ¬ w.heap.size = p := by omega
  obtain ⟨t0, t1, t2, t3, t4, t5, t6, t7, t8, t9⟩ := itAt_row hF7.out.res
  have tf := fun j => frozen_of_row w7 w.heap.size j _ 33 hF7.out.res
  go_wp2
  all_goals first | omega | skip
  have hG := hF7.out.put { X with m := N2 } 5 (.int .i32 N2) rfl rfl
  generalize (w7.setCell ⟨p, 5, none⟩ (.int .i32 N2)) = w8 at hG ⊢
  obtain ⟨s1, s2⟩ := ten_set hG.res (.int .i64 X.kind) (.string (str X.name)) (.int .i64 X.op) (.int .i64 X.a) (.int .i64 X.b) (.int .i32 N2) (.int .i64 X.form) (.slice none 0 0) (.int .u32 X.e.const) (.int .i64 X.n)
  have hB9 := hG.bel.grown s2 hG.bel.size (fun j hj => by cases hj; exact Nat.le_refl _)
  have how9 := own_low hG.own s2 (by have := hG.lo; omega)
  generalize ((((((((((w8.setCell ⟨w.heap.size, 0, none⟩ (.int .i64 X.kind)).setCell ⟨w.heap.size, 1, none⟩ (.string (str X.name))).setCell ⟨w.heap.size, 2, none⟩ (.int .i64 X.op)).setCell ⟨w.heap.size, 3, none⟩ (.int .i64 X.a)).setCell ⟨w.heap.size, 4, none⟩ (.int .i64 X.b)).setCell ⟨w.heap.size, 5, none⟩ (.int .i32 N2)).setCell ⟨w.heap.size, 6, none⟩ (.int .i64 X.form)).setCell ⟨w.heap.size, 7, none⟩ (.slice none 0 0)).setCell ⟨w.heap.size, 8, none⟩ (.int .u32 X.e.const)).setCell ⟨w.heap.size, 9, none⟩ (.int .i64 X.n)) = w9 at s1 s2 hB9 how9 ⊢
  obtain ⟨k0, k1, k2, k3, k4, k5, k6, k7, k8, k9⟩ := ten_read s1
  refine bodyPost_ret (by simp [results, Tryz.results54, go_sem, k0, k1, k2, k3, k4, k5, k6, k7, k8, k9]; try rfl) rfl ?_
  rw [hO.out]
  have hnl := own_len how9
  have hxt : X.e.terms = [] := List.eq_nil_of_length_eq_zero hnl.symm
  exact ⟨hB9, none, 0, 0, rfl, hnl, by show TmLies _ _ X.e.terms; rw [hxt]; exact TmLies.nil _ _⟩
set_option maxHeartbeats 2000000 in
theorem code_10 (op : Int) (hop : 1 <= op /\ op <= 43) (hS : shapeN op = 10) (a : Option Addr) (c : Nat) (x1 x2 : List Tok) (w : World) (hA : RArgsIn w.heap.size w a [x1, x2]) :
  Calls Tryz.prog 54 #[.int .i64 op, .slice a 2 c] w fun e w' => CodeOut w w' (opF (wantsF 10) [x1, x2] 0 (opItm op)) e := by
 have hsh := fun w1 => shape_any op w1
 rw [hS] at hsh
 replace hsh := Hid.intro hsh
 have har : Hid (∀ w1 : World, Calls Tryz.prog 81 #[.int .i64 10] w1 fun e w' => e = .returned (.int .i64 2) /\ w' = w1) := fun w1 => refArgs_any 10 (by omega) w1
 obtain ⟨G, hG⟩ : ∃ G, a = some ⟨G, 0, none⟩ := by
  rcases hA.outer with h | ⟨G, h, _⟩
  ·cases h
  ·exact ⟨G, h⟩
 subst hG
 have e0 : atI (bs (str (wantsF 10))) 0 = 114 := rfl
 have e1 : atI (bs (str (wantsF 10))) (0 + 1) = 101 := rfl
 obtain ⟨R0, hR0⟩ : ∃ R0, opF (wantsF 10) [x1, x2] 0 (opItm op) = R0 := ⟨_, rfl⟩
 rw [hR0]
 replace hR0 := Hid.intro hR0
 have hAH := Hid.intro hA
 clear hA hS
 go_enter Tryz.func54, Tryz.ntmps54
 go_upto_region 15 with (first | (go_at_call 60; (with_reducible refine (hsh.out _).mono ?_); rintro e w1 ⟨rfl, hb1⟩; have hC := Hid.intro (cs2_new hAH.out op hb1)) | (go_at_call 81; (with_reducible refine (har.out _).mono ?_); rintro e w2 ⟨rfl, hw2⟩; obtain rfl : w1 = w2 := hw2.symm))
 all_goals first | omega | skip
 obtain ⟨p, hp⟩ : ∃ p, p = w1.heap.size := ⟨_, rfl⟩
 rw [<- hp] at hC ⊢
 generalize (w1.alloc (.cells #[.int .i64 2, .string ⟨#[]⟩, .int .i64 op, .int .i64 0, .int .i64 0, .int .i32 0, .int .i64 0, .slice none 0 0, .int .u32 0, .int .i64 0] 33)) = w3 at hC ⊢
 clear hp hb1
 obtain ⟨a1, c1, hc1, N1, E1, hW1, hcall1⟩ := regR [x1, x2] G 0 x1 false w3 _ rfl hC.out.ins
 generalize x1.length = l1 at hc1 hcall1
 replace hcall1 := Hid.intro hcall1
 obtain ⟨q0, q1, q2, q3, q4, q5, q6, q7, q8, q9⟩ := itAt_row hC.out.row
 have qf := fun j => frozen_of_row w3 p j _ 33 hC.out.row
 have hlo := hC.out.lo
 have n1 : ¬ p = w.heap.size := by omega
 have n2 : ¬ w.heap.size = p := by omega
 go_upto_region 22 with (go_at_call 82; (with_reducible refine (hcall1.out).mono ?_); rintro e w5 ⟨rfl, hw5⟩; obtain rfl : w3 = w5 := hw5.symm)
 all_goals first | omega | skip
 have hF := Hid.intro (hC.out.put (setReg 0 N1 (opItm op)) 3 (.int .i64 N1) rfl rfl)
 generalize (w3.setCell ⟨p, 3, none⟩ (.int .i64 N1)) = w6 at hF ⊢
 clear q0 q1 q2 q3 q4 q5 q6 q7 q8 q9 qf hc1 hcall1 hC
 obtain ⟨q0, q1, q2, q3, q4, q5, q6, q7, q8, q9⟩ := itAt_row hF.out.row
 have qf := fun j => frozen_of_row w6 p j _ 33 hF.out.row
 have hlo := hF.out.lo
 have n1 : ¬ p = w.heap.size := by omega
 have n2 : ¬ w.heap.size = p := by omega
 cases h1 : regF x1 false with
 | none =>
  rw [h1] at hW1
  obtain ⟨rfl, rfl⟩ := hW1
  obtain ⟨t0, t1, t2, t3, t4, t5, t6, t7, t8, t9⟩ := itAt_row hF.out.res
  have tf := fun j => frozen_of_row w6 w.heap.size j _ 33 hF.out.res
  have hO : Hid (R0 = .error 20) := by
   show R0 = .error 20
   rw [<- hR0.out]
   simp only [opF, e0, stepF_r, h1]; try rfl
  go_wp2
  all_goals first | omega | skip
  obtain ⟨s1, s2⟩ := ten_set hF.out.res (.int .i64 0) (.string ⟨#[]⟩) (.int .i64 0) (.int .i64 0) (.int .i64 0) (.int .i32 0) (.int .i64 0) (.slice none 0 0) (.int .u32 0) (.int .i64 0)
  have hB9 := hF.out.bel.grown s2 hF.out.bel.size (fun j hj => by cases hj; exact Nat.le_refl _)
  have how9 := own_low hF.out.own s2 (by have := hF.out.lo; omega)
  generalize ((((((((((w6.setCell ⟨w.heap.size, 0, none⟩ (.int .i64 0)).setCell ⟨w.heap.size, 1, none⟩ (.string ⟨#[]⟩)).setCell ⟨w.heap.size, 2, none⟩ (.int .i64 0)).setCell ⟨w.heap.size, 3, none⟩ (.int .i64 0)).setCell ⟨w.heap.size, 4, none⟩ (.int .i64 0)).setCell ⟨w.heap.size, 5, none⟩ (.int .i32 0)).setCell ⟨w.heap.size, 6, none⟩ (.int .i64 0)).setCell ⟨w.heap.size, 7, none⟩ (.slice none 0 0)).setCell ⟨w.heap.size, 8, none⟩ (.int .u32 0)).setCell ⟨w.heap.size, 9, none⟩ (.int .i64 0)) = w9 at s1 s2 hB9 how9 ⊢
  obtain ⟨k0, k1, k2, k3, k4, k5, k6, k7, k8, k9⟩ := ten_read s1
  refine bodyPost_ret (by simp [results, Tryz.results54, go_sem, k0, k1, k2, k3, k4, k5, k6, k7, k8, k9]; try rfl) rfl ?_
  rw [hO.out]
  exact ⟨hB9, rfl⟩
 | some r1 =>
  rw [h1] at hW1
  obtain ⟨rfl, rfl⟩ := hW1
  have hr1 := regF_range h1
  obtain ⟨a2, c2, hc2, hT2, _⟩ := rargs_at hF.out.ins (i := 1) (xs := x2) rfl
  have hcall2 := parseW a2 c2 x2 w6 hT2
  clear hT2
  generalize x2.length = l2 at hc2 hcall2
  replace hcall2 := Hid.intro hcall2
  go_upto_region 47 with (go_at_call 84; (with_reducible refine (hcall2.out).mono ?_); rintro e w7 ⟨hb7, y, vb, m, vd, rfl, hoy, hxy⟩; have hF7 := hF.out.below hb7; have z7 := (cell_blockT hF7.row 7).trans rfl; have z8 := (cell_blockT hF7.row 8).trans rfl; have zf := fun j => frozen_of_row w7 p j _ 33 hF7.row; replace hF7 := Hid.intro hF7; replace hoy := Hid.intro hoy; replace hxy := Hid.intro hxy)
  all_goals first | omega | skip
  have hE := Hid.intro (hF.out.putE hb7 y vb m vd hoy.out)
  generalize ((w7.setCell ⟨p, 7, none⟩ (.slice vb m vd)).setCell ⟨p, 8, none⟩ (.int .u32 y.const)) = w8 at hE ⊢
  clear q0 q1 q2 q3 q4 q5 q6 q7 q8 q9 qf hc2 hcall2 hF z7 z8 zf hF7 hoy
  obtain ⟨q0, q1, q2, q3, q4, q5, q6, q7, q8, q9⟩ := itAt_row hE.out.row
  have qf := fun j => frozen_of_row w8 p j _ 33 hE.out.row
  have hlo := hE.out.lo
  have n1 : ¬ p = w.heap.size := by omega
  have n2 : ¬ w.heap.size = p := by omega
  cases h2 : parseF x2 with
  | error k2 =>
   rw [show whyOf (.error k2 : Except Int Lin) = k2 from rfl]
   have hk2 : (k2 == 0) = false := by rcases parseF_err h2 with rfl | rfl <;> rfl
   clear hxy
   obtain ⟨t0, t1, t2, t3, t4, t5, t6, t7, t8, t9⟩ := itAt_row hE.out.res
   have tf := fun j => frozen_of_row w8 w.heap.size j _ 33 hE.out.res
   have hO : Hid (R0 = .error k2) := by
    show R0 = .error k2
    rw [<- hR0.out]
    simp only [opF, e0, e1, stepF_r, stepF_e, h1, exprF_bad h2]
   go_wp2
   all_goals first | omega | skip
   obtain ⟨s1, s2⟩ := ten_set hE.out.res (.int .i64 0) (.string ⟨#[]⟩) (.int .i64 0) (.int .i64 0) (.int .i64 0) (.int .i32 0) (.int .i64 0) (.slice none 0 0) (.int .u32 0) (.int .i64 0)
   have hB9 := hE.out.bel.grown s2 hE.out.bel.size (fun j hj => by cases hj; exact Nat.le_refl _)
   have how9 := own_low hE.out.own s2 (by have := hE.out.lo; omega)
   generalize ((((((((((w8.setCell ⟨w.heap.size, 0, none⟩ (.int .i64 0)).setCell ⟨w.heap.size, 1, none⟩ (.string ⟨#[]⟩)).setCell ⟨w.heap.size, 2, none⟩ (.int .i64 0)).setCell ⟨w.heap.size, 3, none⟩ (.int .i64 0)).setCell ⟨w.heap.size, 4, none⟩ (.int .i64 0)).setCell ⟨w.heap.size, 5, none⟩ (.int .i32 0)).setCell ⟨w.heap.size, 6, none⟩ (.int .i64 0)).setCell ⟨w.heap.size, 7, none⟩ (.slice none 0 0)).setCell ⟨w.heap.size, 8, none⟩ (.int .u32 0)).setCell ⟨w.heap.size, 9, none⟩ (.int .i64 0)) = w9 at s1 s2 hB9 how9 ⊢
   obtain ⟨k0, k1, k2, k3, k4, k5, k6, k7, k8, k9⟩ := ten_read s1
   refine bodyPost_ret (by simp [results, Tryz.results54, go_sem, k0, k1, k2, k3, k4, k5, k6, k7, k8, k9]; try rfl) rfl ?_
   rw [hO.out]
   exact ⟨hB9, rfl⟩
  | ok y2 =>
   rw [show whyOf (.ok y2 : Except Int Lin) = 0 from rfl]
   obtain rfl := hxy.out y2 h2
   clear hxy
   obtain ⟨X, hX⟩ : ∃ X, { setReg 0 N1 (opItm op) with e := y2 } = X := ⟨_, rfl⟩
   have hO : Hid (R0 = .ok { X with m := 0 }) := by
    show R0 = .ok { X with m := 0 }
    rw [<- hR0.out, <- hX]
    simp only [opF, e0, e1, stepF_r, stepF_e, h1, exprF_ok h2]; try rfl
   rw [hX] at hE
   clear hX
   clear q0 q1 q2 q3 q4 q5 q6 q7 q8 q9 qf
   obtain ⟨q0, q1, q2, q3, q4, q5, q6, q7, q8, q9⟩ := itAt_row hE.out.row
   have qf := fun j => frozen_of_row w8 p j _ 33 hE.out.row
   have hlo := hE.out.lo
   have n1 : ¬ p = w.heap.size := by omega
   have n2 : ¬ w.heap.size = p := by omega
   obtain ⟨t0, t1, t2, t3, t4, t5, t6, t7, t8, t9⟩ := itAt_row hE.out.res
   have tf := fun j => frozen_of_row w8 w.heap.size j _ 33 hE.out.res
   go_wp2
   all_goals first | omega | skip
   have hG := hE.out.put { X with m := 0 } 5 (.int .i32 0) rfl rfl
   generalize (w8.setCell ⟨p, 5, none⟩ (.int .i32 0)) = w8 at hG ⊢
   obtain ⟨s1, s2⟩ := ten_set hG.res (.int .i64 X.kind) (.string (str X.name)) (.int .i64 X.op) (.int .i64 X.a) (.int .i64 X.b) (.int .i32 0) (.int .i64 X.form) (.slice vb m vd) (.int .u32 X.e.const) (.int .i64 X.n)
   have hB9 := hG.bel.grown s2 hG.bel.size (fun j hj => by cases hj; exact Nat.le_refl _)
   have how9 := own_low hG.own s2 (by have := hG.lo; omega)
   generalize ((((((((((w8.setCell ⟨w.heap.size, 0, none⟩ (.int .i64 X.kind)).setCell ⟨w.heap.size, 1, none⟩ (.string (str X.name))).setCell ⟨w.heap.size, 2, none⟩ (.int .i64 X.op)).setCell ⟨w.heap.size, 3, none⟩ (.int .i64 X.a)).setCell ⟨w.heap.size, 4, none⟩ (.int .i64 X.b)).setCell ⟨w.heap.size, 5, none⟩ (.int .i32 0)).setCell ⟨w.heap.size, 6, none⟩ (.int .i64 X.form)).setCell ⟨w.heap.size, 7, none⟩ (.slice vb m vd)).setCell ⟨w.heap.size, 8, none⟩ (.int .u32 X.e.const)).setCell ⟨w.heap.size, 9, none⟩ (.int .i64 X.n)) = w9 at s1 s2 hB9 how9 ⊢
   obtain ⟨k0, k1, k2, k3, k4, k5, k6, k7, k8, k9⟩ := ten_read s1
   refine bodyPost_ret (by simp [results, Tryz.results54, go_sem, k0, k1, k2, k3, k4, k5, k6, k7, k8, k9]; try rfl) rfl ?_
   rw [hO.out]
   have hnl := own_len how9
   subst hnl
   exact ⟨hB9, vb, _, vd, rfl, rfl, own_tmLies how9⟩
end Go.Proofs.YtlkmegchaeokgaaGreatDoor
namespace Go.Proofs.YtlkmegchaeokgaaGreatDoor
open Go.ChangeShapes Go.WideShapes Go.ChangeAt Go.RowKit
set_option linter.unusedVariables false
set_option maxRecDepth 100000
set_option maxHeartbeats 2000000 in
theorem code_11 (op : Int) (hop : 1 <= op /\ op <= 43) (hS : shapeN op = 11) (a : Option Addr) (c : Nat) (x1 : List Tok) (t2 : Tok) (x2 : List Tok) (w : World) (hA : RArgsIn w.heap.size w a [x1, t2 :: x2]) :
  Calls Tryz.prog 54 #[.int .i64 op, .slice a 2 c] w fun e w' => CodeOut w w' (opF (wantsF 11) [x1, t2 :: x2] 0 (opItm op)) e := by
 have hsh := fun w1 => shape_any op w1
 rw [hS] at hsh
 replace hsh := Hid.intro hsh
 have har : Hid (∀ w1 : World, Calls Tryz.prog 81 #[.int .i64 11] w1 fun e w' => e = .returned (.int .i64 2) /\ w' = w1) := fun w1 => refArgs_any 11 (by omega) w1
 obtain ⟨G, hG⟩ : ∃ G, a = some ⟨G, 0, none⟩ := by
  rcases hA.outer with h | ⟨G, h, _⟩
  ·cases h
  ·exact ⟨G, h⟩
 subst hG
 have e0 : atI (bs (str (wantsF 11))) 0 = 114 := rfl
 have e1 : atI (bs (str (wantsF 11))) (0 + 1) = 61 := rfl
 obtain ⟨R0, hR0⟩ : ∃ R0, opF (wantsF 11) [x1, t2 :: x2] 0 (opItm op) = R0 := ⟨_, rfl⟩
 rw [hR0]
 replace hR0 := Hid.intro hR0
 have hAH := Hid.intro hA
 clear hA hS
 go_enter Tryz.func54, Tryz.ntmps54
 go_upto_region 15 with (first | (go_at_call 60; (with_reducible refine (hsh.out _).mono ?_); rintro e w1 ⟨rfl, hb1⟩; have hC := Hid.intro (cs2_new hAH.out op hb1)) | (go_at_call 81; (with_reducible refine (har.out _).mono ?_); rintro e w2 ⟨rfl, hw2⟩; obtain rfl : w1 = w2 := hw2.symm))
 all_goals first | omega | skip
 obtain ⟨p, hp⟩ : ∃ p, p = w1.heap.size := ⟨_, rfl⟩
 rw [<- hp] at hC ⊢
 generalize (w1.alloc (.cells #[.int .i64 2, .string ⟨#[]⟩, .int .i64 op, .int .i64 0, .int .i64 0, .int .i32 0, .int .i64 0, .slice none 0 0, .int .u32 0, .int .i64 0] 33)) = w3 at hC ⊢
 clear hp hb1
 obtain ⟨a1, c1, hc1, N1, E1, hW1, hcall1⟩ := regR [x1, t2 :: x2] G 0 x1 false w3 _ rfl hC.out.ins
 generalize x1.length = l1 at hc1 hcall1
 replace hcall1 := Hid.intro hcall1
 obtain ⟨q0, q1, q2, q3, q4, q5, q6, q7, q8, q9⟩ := itAt_row hC.out.row
 have qf := fun j => frozen_of_row w3 p j _ 33 hC.out.row
 have hlo := hC.out.lo
 have n1 : ¬ p = w.heap.size := by omega
 have n2 : ¬ w.heap.size = p := by omega
 go_upto_region 22 with (go_at_call 82; (with_reducible refine (hcall1.out).mono ?_); rintro e w5 ⟨rfl, hw5⟩; obtain rfl : w3 = w5 := hw5.symm)
 all_goals first | omega | skip
 have hF := Hid.intro (hC.out.put (setReg 0 N1 (opItm op)) 3 (.int .i64 N1) rfl rfl)
 generalize (w3.setCell ⟨p, 3, none⟩ (.int .i64 N1)) = w6 at hF ⊢
 clear q0 q1 q2 q3 q4 q5 q6 q7 q8 q9 qf hc1 hcall1 hC
 obtain ⟨q0, q1, q2, q3, q4, q5, q6, q7, q8, q9⟩ := itAt_row hF.out.row
 have qf := fun j => frozen_of_row w6 p j _ 33 hF.out.row
 have hlo := hF.out.lo
 have n1 : ¬ p = w.heap.size := by omega
 have n2 : ¬ w.heap.size = p := by omega
 cases h1 : regF x1 false with
 | none =>
  rw [h1] at hW1
  obtain ⟨rfl, rfl⟩ := hW1
  obtain ⟨t0, t1, t2, t3, t4, t5, t6, t7, t8, t9⟩ := itAt_row hF.out.res
  have tf := fun j => frozen_of_row w6 w.heap.size j _ 33 hF.out.res
  have hO : Hid (R0 = .error 20) := by
   show R0 = .error 20
   rw [<- hR0.out]
   simp only [opF, e0, stepF_r, h1]; try rfl
  go_wp2
  all_goals first | omega | skip
  obtain ⟨s1, s2⟩ := ten_set hF.out.res (.int .i64 0) (.string ⟨#[]⟩) (.int .i64 0) (.int .i64 0) (.int .i64 0) (.int .i32 0) (.int .i64 0) (.slice none 0 0) (.int .u32 0) (.int .i64 0)
  have hB9 := hF.out.bel.grown s2 hF.out.bel.size (fun j hj => by cases hj; exact Nat.le_refl _)
  have how9 := own_low hF.out.own s2 (by have := hF.out.lo; omega)
  generalize ((((((((((w6.setCell ⟨w.heap.size, 0, none⟩ (.int .i64 0)).setCell ⟨w.heap.size, 1, none⟩ (.string ⟨#[]⟩)).setCell ⟨w.heap.size, 2, none⟩ (.int .i64 0)).setCell ⟨w.heap.size, 3, none⟩ (.int .i64 0)).setCell ⟨w.heap.size, 4, none⟩ (.int .i64 0)).setCell ⟨w.heap.size, 5, none⟩ (.int .i32 0)).setCell ⟨w.heap.size, 6, none⟩ (.int .i64 0)).setCell ⟨w.heap.size, 7, none⟩ (.slice none 0 0)).setCell ⟨w.heap.size, 8, none⟩ (.int .u32 0)).setCell ⟨w.heap.size, 9, none⟩ (.int .i64 0)) = w9 at s1 s2 hB9 how9 ⊢
  obtain ⟨k0, k1, k2, k3, k4, k5, k6, k7, k8, k9⟩ := ten_read s1
  refine bodyPost_ret (by simp [results, Tryz.results54, go_sem, k0, k1, k2, k3, k4, k5, k6, k7, k8, k9]; try rfl) rfl ?_
  rw [hO.out]
  exact ⟨hB9, rfl⟩
 | some r1 =>
  rw [h1] at hW1
  obtain ⟨rfl, rfl⟩ := hW1
  have hr1 := regF_range h1
  obtain ⟨a2, c2, hc2, hT2, _, hcp⟩ := rargs_at hF.out.ins (i := 1) (xs := t2 :: x2) rfl
  obtain ⟨g2, o2, rfl, u0, u1⟩ := hT2.head2
  have htl := Hid.intro hT2.tail2
  have hfw := hT2.few
  simp only [List.length_cons] at hc2 hcp hfw
  clear hT2
  obtain ⟨l2, hl2⟩ : ∃ l2, l2 = x2.length := ⟨_, rfl⟩
  rw [<- hl2] at hc2 hcp hfw
  replace hl2 := Hid.intro hl2
  by_cases hk : t2.kind = 3
  ·rw [hk] at u0
   by_cases htx : t2.text = [61]
   ·have hSg : isS t2 61 = true := by simp [isS, hk, htx]
    rw [htx] at u1
    replace u1 : w6.cell? ⟨g2, o2 + 1, none⟩ = some (.string ⟨#[61]⟩) := u1
    by_cases hc1 : c2 = 1
    ·subst hc1
     have hl0 : l2 = 0 := by omega
     have hcall2 := parseW (some ⟨g2, o2, none⟩) 0 x2 w6 (htl.out.1 (List.eq_nil_of_length_eq_zero (by rw [<- hl2.out]; exact hl0)))
     rw [<- hl2.out] at hcall2
     subst hl0
     replace hcall2 := Hid.intro hcall2
     go_upto_region 47 with (go_at_call 84; (with_reducible refine (hcall2.out).mono ?_); rintro e w7 ⟨hb7, y, vb, m, vd, rfl, hoy, hxy⟩; have hF7 := hF.out.below hb7; have z7 := (cell_blockT hF7.row 7).trans rfl; have z8 := (cell_blockT hF7.row 8).trans rfl; have zf := fun j => frozen_of_row w7 p j _ 33 hF7.row; replace hF7 := Hid.intro hF7; replace hoy := Hid.intro hoy; replace hxy := Hid.intro hxy)
     all_goals first | omega | skip
     have hE := Hid.intro (hF.out.putE hb7 y vb m vd hoy.out)
     generalize ((w7.setCell ⟨p, 7, none⟩ (.slice vb m vd)).setCell ⟨p, 8, none⟩ (.int .u32 y.const)) = w8 at hE ⊢
     clear q0 q1 q2 q3 q4 q5 q6 q7 q8 q9 qf hc2 hcall2 u0 u1 hF z7 z8 zf hF7 hoy
     obtain ⟨q0, q1, q2, q3, q4, q5, q6, q7, q8, q9⟩ := itAt_row hE.out.row
     have qf := fun j => frozen_of_row w8 p j _ 33 hE.out.row
     have hlo := hE.out.lo
     have n1 : ¬ p = w.heap.size := by omega
     have n2 : ¬ w.heap.size = p := by omega
     cases h2 : parseF x2 with
     | error k2 =>
      rw [show whyOf (.error k2 : Except Int Lin) = k2 from rfl]
      have hk2 : (k2 == 0) = false := by rcases parseF_err h2 with rfl | rfl <;> rfl
      clear hxy
      obtain ⟨t0, t1, t2, t3, t4, t5, t6, t7, t8, t9⟩ := itAt_row hE.out.res
      have tf := fun j => frozen_of_row w8 w.heap.size j _ 33 hE.out.res
      have hO : Hid (R0 = .error k2) := by
       show R0 = .error k2
       rw [<- hR0.out]
       simp only [opF, e0, e1, stepF_r, stepF_l, h1, hSg, ↓reduceIte, exprF_bad h2]
      go_wp2
      all_goals first | omega | skip
      obtain ⟨s1, s2⟩ := ten_set hE.out.res (.int .i64 0) (.string ⟨#[]⟩) (.int .i64 0) (.int .i64 0) (.int .i64 0) (.int .i32 0) (.int .i64 0) (.slice none 0 0) (.int .u32 0) (.int .i64 0)
      have hB9 := hE.out.bel.grown s2 hE.out.bel.size (fun j hj => by cases hj; exact Nat.le_refl _)
      have how9 := own_low hE.out.own s2 (by have := hE.out.lo; omega)
      generalize ((((((((((w8.setCell ⟨w.heap.size, 0, none⟩ (.int .i64 0)).setCell ⟨w.heap.size, 1, none⟩ (.string ⟨#[]⟩)).setCell ⟨w.heap.size, 2, none⟩ (.int .i64 0)).setCell ⟨w.heap.size, 3, none⟩ (.int .i64 0)).setCell ⟨w.heap.size, 4, none⟩ (.int .i64 0)).setCell ⟨w.heap.size, 5, none⟩ (.int .i32 0)).setCell ⟨w.heap.size, 6, none⟩ (.int .i64 0)).setCell ⟨w.heap.size, 7, none⟩ (.slice none 0 0)).setCell ⟨w.heap.size, 8, none⟩ (.int .u32 0)).setCell ⟨w.heap.size, 9, none⟩ (.int .i64 0)) = w9 at s1 s2 hB9 how9 ⊢
      obtain ⟨k0, k1, k2, k3, k4, k5, k6, k7, k8, k9⟩ := ten_read s1
      refine bodyPost_ret (by simp [results, Tryz.results54, go_sem, k0, k1, k2, k3, k4, k5, k6, k7, k8, k9]; try rfl) rfl ?_
      rw [hO.out]
      exact ⟨hB9, rfl⟩
     | ok y2 =>
      rw [show whyOf (.ok y2 : Except Int Lin) = 0 from rfl]
      obtain rfl := hxy.out y2 h2
      clear hxy
      obtain ⟨X, hX⟩ : ∃ X, { setReg 0 N1 (opItm op) with e := y2 } = X := ⟨_, rfl⟩
      have hO : Hid (R0 = .ok { X with m := 0 }) := by
       show R0 = .ok { X with m := 0 }
       rw [<- hR0.out, <- hX]
       simp only [opF, e0, e1, stepF_r, stepF_l, h1, hSg, ↓reduceIte, exprF_ok h2]; try rfl
      rw [hX] at hE
      clear hX
      clear q0 q1 q2 q3 q4 q5 q6 q7 q8 q9 qf
      obtain ⟨q0, q1, q2, q3, q4, q5, q6, q7, q8, q9⟩ := itAt_row hE.out.row
      have qf := fun j => frozen_of_row w8 p j _ 33 hE.out.row
      have hlo := hE.out.lo
      have n1 : ¬ p = w.heap.size := by omega
      have n2 : ¬ w.heap.size = p := by omega
      obtain ⟨t0, t1, t2, t3, t4, t5, t6, t7, t8, t9⟩ := itAt_row hE.out.res
      have tf := fun j => frozen_of_row w8 w.heap.size j _ 33 hE.out.res
      go_wp2
      all_goals first | omega | skip
      have hG := hE.out.put { X with m := 0 } 5 (.int .i32 0) rfl rfl
      generalize (w8.setCell ⟨p, 5, none⟩ (.int .i32 0)) = w8 at hG ⊢
      obtain ⟨s1, s2⟩ := ten_set hG.res (.int .i64 X.kind) (.string (str X.name)) (.int .i64 X.op) (.int .i64 X.a) (.int .i64 X.b) (.int .i32 0) (.int .i64 X.form) (.slice vb m vd) (.int .u32 X.e.const) (.int .i64 X.n)
      have hB9 := hG.bel.grown s2 hG.bel.size (fun j hj => by cases hj; exact Nat.le_refl _)
      have how9 := own_low hG.own s2 (by have := hG.lo; omega)
      generalize ((((((((((w8.setCell ⟨w.heap.size, 0, none⟩ (.int .i64 X.kind)).setCell ⟨w.heap.size, 1, none⟩ (.string (str X.name))).setCell ⟨w.heap.size, 2, none⟩ (.int .i64 X.op)).setCell ⟨w.heap.size, 3, none⟩ (.int .i64 X.a)).setCell ⟨w.heap.size, 4, none⟩ (.int .i64 X.b)).setCell ⟨w.heap.size, 5, none⟩ (.int .i32 0)).setCell ⟨w.heap.size, 6, none⟩ (.int .i64 X.form)).setCell ⟨w.heap.size, 7, none⟩ (.slice vb m vd)).setCell ⟨w.heap.size, 8, none⟩ (.int .u32 X.e.const)).setCell ⟨w.heap.size, 9, none⟩ (.int .i64 X.n)) = w9 at s1 s2 hB9 how9 ⊢
      obtain ⟨k0, k1, k2, k3, k4, k5, k6, k7, k8, k9⟩ := ten_read s1
      refine bodyPost_ret (by simp [results, Tryz.results54, go_sem, k0, k1, k2, k3, k4, k5, k6, k7, k8, k9]; try rfl) rfl ?_
      rw [hO.out]
      have hnl := own_len how9
      subst hnl
      exact ⟨hB9, vb, _, vd, rfl, rfl, own_tmLies how9⟩
    ·have hcall2 := parseW (some ⟨g2, o2 + 4, none⟩) (c2 - 1) x2 w6 htl.out.2
     rw [<- hl2.out] at hcall2
     have hc22 : 2 <= c2 := by omega
     replace hcall2 := Hid.intro hcall2
     go_upto_region 47 with (go_at_call 84; (with_reducible refine (hcall2.out).mono ?_); rintro e w7 ⟨hb7, y, vb, m, vd, rfl, hoy, hxy⟩; have hF7 := hF.out.below hb7; have z7 := (cell_blockT hF7.row 7).trans rfl; have z8 := (cell_blockT hF7.row 8).trans rfl; have zf := fun j => frozen_of_row w7 p j _ 33 hF7.row; replace hF7 := Hid.intro hF7; replace hoy := Hid.intro hoy; replace hxy := Hid.intro hxy)
     all_goals first | omega | skip
     have hE := Hid.intro (hF.out.putE hb7 y vb m vd hoy.out)
     generalize ((w7.setCell ⟨p, 7, none⟩ (.slice vb m vd)).setCell ⟨p, 8, none⟩ (.int .u32 y.const)) = w8 at hE ⊢
     clear q0 q1 q2 q3 q4 q5 q6 q7 q8 q9 qf hc2 hcall2 u0 u1 hF z7 z8 zf hF7 hoy
     obtain ⟨q0, q1, q2, q3, q4, q5, q6, q7, q8, q9⟩ := itAt_row hE.out.row
     have qf := fun j => frozen_of_row w8 p j _ 33 hE.out.row
     have hlo := hE.out.lo
     have n1 : ¬ p = w.heap.size := by omega
     have n2 : ¬ w.heap.size = p := by omega
     cases h2 : parseF x2 with
     | error k2 =>
      rw [show whyOf (.error k2 : Except Int Lin) = k2 from rfl]
      have hk2 : (k2 == 0) = false := by rcases parseF_err h2 with rfl | rfl <;> rfl
      clear hxy
      obtain ⟨t0, t1, t2, t3, t4, t5, t6, t7, t8, t9⟩ := itAt_row hE.out.res
      have tf := fun j => frozen_of_row w8 w.heap.size j _ 33 hE.out.res
      have hO : Hid (R0 = .error k2) := by
       show R0 = .error k2
       rw [<- hR0.out]
       simp only [opF, e0, e1, stepF_r, stepF_l, h1, hSg, ↓reduceIte, exprF_bad h2]
      go_wp2
      all_goals first | omega | skip
      obtain ⟨s1, s2⟩ := ten_set hE.out.res (.int .i64 0) (.string ⟨#[]⟩) (.int .i64 0) (.int .i64 0) (.int .i64 0) (.int .i32 0) (.int .i64 0) (.slice none 0 0) (.int .u32 0) (.int .i64 0)
      have hB9 := hE.out.bel.grown s2 hE.out.bel.size (fun j hj => by cases hj; exact Nat.le_refl _)
      have how9 := own_low hE.out.own s2 (by have := hE.out.lo; omega)
      generalize ((((((((((w8.setCell ⟨w.heap.size, 0, none⟩ (.int .i64 0)).setCell ⟨w.heap.size, 1, none⟩ (.string ⟨#[]⟩)).setCell ⟨w.heap.size, 2, none⟩ (.int .i64 0)).setCell ⟨w.heap.size, 3, none⟩ (.int .i64 0)).setCell ⟨w.heap.size, 4, none⟩ (.int .i64 0)).setCell ⟨w.heap.size, 5, none⟩ (.int .i32 0)).setCell ⟨w.heap.size, 6, none⟩ (.int .i64 0)).setCell ⟨w.heap.size, 7, none⟩ (.slice none 0 0)).setCell ⟨w.heap.size, 8, none⟩ (.int .u32 0)).setCell ⟨w.heap.size, 9, none⟩ (.int .i64 0)) = w9 at s1 s2 hB9 how9 ⊢
      obtain ⟨k0, k1, k2, k3, k4, k5, k6, k7, k8, k9⟩ := ten_read s1
      refine bodyPost_ret (by simp [results, Tryz.results54, go_sem, k0, k1, k2, k3, k4, k5, k6, k7, k8, k9]; try rfl) rfl ?_
      rw [hO.out]
      exact ⟨hB9, rfl⟩
     | ok y2 =>
      rw [show whyOf (.ok y2 : Except Int Lin) = 0 from rfl]
      obtain rfl := hxy.out y2 h2
      clear hxy
      obtain ⟨X, hX⟩ : ∃ X, { setReg 0 N1 (opItm op) with e := y2 } = X := ⟨_, rfl⟩
      have hO : Hid (R0 = .ok { X with m := 0 }) := by
       show R0 = .ok { X with m := 0 }
       rw [<- hR0.out, <- hX]
       simp only [opF, e0, e1, stepF_r, stepF_l, h1, hSg, ↓reduceIte, exprF_ok h2]; try rfl
      rw [hX] at hE
      clear hX
      clear q0 q1 q2 q3 q4 q5 q6 q7 q8 q9 qf
      obtain ⟨q0, q1, q2, q3, q4, q5, q6, q7, q8, q9⟩ := itAt_row hE.out.row
      have qf := fun j => frozen_of_row w8 p j _ 33 hE.out.row
      have hlo := hE.out.lo
      have n1 : ¬ p = w.heap.size := by omega
      have n2 : ¬ w.heap.size = p := by omega
      obtain ⟨t0, t1, t2, t3, t4, t5, t6, t7, t8, t9⟩ := itAt_row hE.out.res
      have tf := fun j => frozen_of_row w8 w.heap.size j _ 33 hE.out.res
      go_wp2
      all_goals first | omega | skip
      have hG := hE.out.put { X with m := 0 } 5 (.int .i32 0) rfl rfl
      generalize (w8.setCell ⟨p, 5, none⟩ (.int .i32 0)) = w8 at hG ⊢
      obtain ⟨s1, s2⟩ := ten_set hG.res (.int .i64 X.kind) (.string (str X.name)) (.int .i64 X.op) (.int .i64 X.a) (.int .i64 X.b) (.int .i32 0) (.int .i64 X.form) (.slice vb m vd) (.int .u32 X.e.const) (.int .i64 X.n)
      have hB9 := hG.bel.grown s2 hG.bel.size (fun j hj => by cases hj; exact Nat.le_refl _)
      have how9 := own_low hG.own s2 (by have := hG.lo; omega)
      generalize ((((((((((w8.setCell ⟨w.heap.size, 0, none⟩ (.int .i64 X.kind)).setCell ⟨w.heap.size, 1, none⟩ (.string (str X.name))).setCell ⟨w.heap.size, 2, none⟩ (.int .i64 X.op)).setCell ⟨w.heap.size, 3, none⟩ (.int .i64 X.a)).setCell ⟨w.heap.size, 4, none⟩ (.int .i64 X.b)).setCell ⟨w.heap.size, 5, none⟩ (.int .i32 0)).setCell ⟨w.heap.size, 6, none⟩ (.int .i64 X.form)).setCell ⟨w.heap.size, 7, none⟩ (.slice vb m vd)).setCell ⟨w.heap.size, 8, none⟩ (.int .u32 X.e.const)).setCell ⟨w.heap.size, 9, none⟩ (.int .i64 X.n)) = w9 at s1 s2 hB9 how9 ⊢
      obtain ⟨k0, k1, k2, k3, k4, k5, k6, k7, k8, k9⟩ := ten_read s1
      refine bodyPost_ret (by simp [results, Tryz.results54, go_sem, k0, k1, k2, k3, k4, k5, k6, k7, k8, k9]; try rfl) rfl ?_
      rw [hO.out]
      have hnl := own_len how9
      subst hnl
      exact ⟨hB9, vb, _, vd, rfl, rfl, own_tmLies how9⟩
   ·have hSg : isS t2 61 = false := by simp [isS, htx]
    have hny : ((str t2.text).toList == [61]) = false := by rw [str_toList]; exact beq_false_of_ne htx
    have hnz : (t2.text == [61]) = false := beq_false_of_ne htx
    obtain ⟨t0, t1, t2, t3, t4, t5, t6, t7, t8, t9⟩ := itAt_row hF.out.res
    have tf := fun j => frozen_of_row w6 w.heap.size j _ 33 hF.out.res
    have hO : Hid (R0 = .error 20) := by
     show R0 = .error 20
     rw [<- hR0.out]
     simp only [opF, e0, e1, stepF_r, stepF_l, h1, hSg, Bool.false_eq_true, ↓reduceIte]
    go_wp2
    all_goals first | omega | skip
    obtain ⟨s1, s2⟩ := ten_set hF.out.res (.int .i64 0) (.string ⟨#[]⟩) (.int .i64 0) (.int .i64 0) (.int .i64 0) (.int .i32 0) (.int .i64 0) (.slice none 0 0) (.int .u32 0) (.int .i64 0)
    have hB9 := hF.out.bel.grown s2 hF.out.bel.size (fun j hj => by cases hj; exact Nat.le_refl _)
    have how9 := own_low hF.out.own s2 (by have := hF.out.lo; omega)
    generalize ((((((((((w6.setCell ⟨w.heap.size, 0, none⟩ (.int .i64 0)).setCell ⟨w.heap.size, 1, none⟩ (.string ⟨#[]⟩)).setCell ⟨w.heap.size, 2, none⟩ (.int .i64 0)).setCell ⟨w.heap.size, 3, none⟩ (.int .i64 0)).setCell ⟨w.heap.size, 4, none⟩ (.int .i64 0)).setCell ⟨w.heap.size, 5, none⟩ (.int .i32 0)).setCell ⟨w.heap.size, 6, none⟩ (.int .i64 0)).setCell ⟨w.heap.size, 7, none⟩ (.slice none 0 0)).setCell ⟨w.heap.size, 8, none⟩ (.int .u32 0)).setCell ⟨w.heap.size, 9, none⟩ (.int .i64 0)) = w9 at s1 s2 hB9 how9 ⊢
    obtain ⟨k0, k1, k2, k3, k4, k5, k6, k7, k8, k9⟩ := ten_read s1
    refine bodyPost_ret (by simp [results, Tryz.results54, go_sem, k0, k1, k2, k3, k4, k5, k6, k7, k8, k9]; try rfl) rfl ?_
    rw [hO.out]
    exact ⟨hB9, rfl⟩
  ·have hSg : isS t2 61 = false := by simp [isS, hk]
   have hk' : (t2.kind == 3) = false := by simp [hk]
   obtain ⟨t0, t1, t2, t3, t4, t5, t6, t7, t8, t9⟩ := itAt_row hF.out.res
   have tf := fun j => frozen_of_row w6 w.heap.size j _ 33 hF.out.res
   have hO : Hid (R0 = .error 20) := by
    show R0 = .error 20
    rw [<- hR0.out]
    simp only [opF, e0, e1, stepF_r, stepF_l, h1, hSg, Bool.false_eq_true, ↓reduceIte]
   go_wp2
   all_goals first | omega | skip
   obtain ⟨s1, s2⟩ := ten_set hF.out.res (.int .i64 0) (.string ⟨#[]⟩) (.int .i64 0) (.int .i64 0) (.int .i64 0) (.int .i32 0) (.int .i64 0) (.slice none 0 0) (.int .u32 0) (.int .i64 0)
   have hB9 := hF.out.bel.grown s2 hF.out.bel.size (fun j hj => by cases hj; exact Nat.le_refl _)
   have how9 := own_low hF.out.own s2 (by have := hF.out.lo; omega)
   generalize ((((((((((w6.setCell ⟨w.heap.size, 0, none⟩ (.int .i64 0)).setCell ⟨w.heap.size, 1, none⟩ (.string ⟨#[]⟩)).setCell ⟨w.heap.size, 2, none⟩ (.int .i64 0)).setCell ⟨w.heap.size, 3, none⟩ (.int .i64 0)).setCell ⟨w.heap.size, 4, none⟩ (.int .i64 0)).setCell ⟨w.heap.size, 5, none⟩ (.int .i32 0)).setCell ⟨w.heap.size, 6, none⟩ (.int .i64 0)).setCell ⟨w.heap.size, 7, none⟩ (.slice none 0 0)).setCell ⟨w.heap.size, 8, none⟩ (.int .u32 0)).setCell ⟨w.heap.size, 9, none⟩ (.int .i64 0)) = w9 at s1 s2 hB9 how9 ⊢
   obtain ⟨k0, k1, k2, k3, k4, k5, k6, k7, k8, k9⟩ := ten_read s1
   refine bodyPost_ret (by simp [results, Tryz.results54, go_sem, k0, k1, k2, k3, k4, k5, k6, k7, k8, k9]; try rfl) rfl ?_
   rw [hO.out]
   exact ⟨hB9, rfl⟩
set_option maxHeartbeats 2000000 in
theorem code_12 (op : Int) (hop : 1 <= op /\ op <= 43) (hS : shapeN op = 12) (a : Option Addr) (c : Nat) (x1 : List Tok) (w : World) (hA : RArgsIn w.heap.size w a [x1]) :
  Calls Tryz.prog 54 #[.int .i64 op, .slice a 1 c] w fun e w' => CodeOut w w' (opF (wantsF 12) [x1] 0 (opItm op)) e := by
 have hsh := fun w1 => shape_any op w1
 rw [hS] at hsh
 replace hsh := Hid.intro hsh
 have har : Hid (∀ w1 : World, Calls Tryz.prog 81 #[.int .i64 12] w1 fun e w' => e = .returned (.int .i64 1) /\ w' = w1) := fun w1 => refArgs_any 12 (by omega) w1
 obtain ⟨G, hG⟩ : ∃ G, a = some ⟨G, 0, none⟩ := by
  rcases hA.outer with h | ⟨G, h, _⟩
  ·cases h
  ·exact ⟨G, h⟩
 subst hG
 have e0 : atI (bs (str (wantsF 12))) 0 = 101 := rfl
 obtain ⟨R0, hR0⟩ : ∃ R0, opF (wantsF 12) [x1] 0 (opItm op) = R0 := ⟨_, rfl⟩
 rw [hR0]
 replace hR0 := Hid.intro hR0
 have hAH := Hid.intro hA
 clear hA hS
 go_enter Tryz.func54, Tryz.ntmps54
 go_upto_region 22 with (first | (go_at_call 60; (with_reducible refine (hsh.out _).mono ?_); rintro e w1 ⟨rfl, hb1⟩; have hC := Hid.intro (cs2_new hAH.out op hb1)) | (go_at_call 81; (with_reducible refine (har.out _).mono ?_); rintro e w2 ⟨rfl, hw2⟩; obtain rfl : w1 = w2 := hw2.symm))
 all_goals first | omega | skip
 obtain ⟨p, hp⟩ : ∃ p, p = w1.heap.size := ⟨_, rfl⟩
 rw [<- hp] at hC ⊢
 generalize (w1.alloc (.cells #[.int .i64 2, .string ⟨#[]⟩, .int .i64 op, .int .i64 0, .int .i64 0, .int .i32 0, .int .i64 0, .slice none 0 0, .int .u32 0, .int .i64 0] 33)) = w3 at hC ⊢
 clear hp hb1
 obtain ⟨q0, q1, q2, q3, q4, q5, q6, q7, q8, q9⟩ := itAt_row hC.out.row
 have qf := fun j => frozen_of_row w3 p j _ 33 hC.out.row
 have hlo := hC.out.lo
 have n1 : ¬ p = w.heap.size := by omega
 have n2 : ¬ w.heap.size = p := by omega
 obtain ⟨a2, c2, hc2, hT2, _⟩ := rargs_at hC.out.ins (i := 0) (xs := x1) rfl
 have hcall2 := parseW a2 c2 x1 w3 hT2
 clear hT2
 generalize x1.length = l2 at hc2 hcall2
 replace hcall2 := Hid.intro hcall2
 go_upto_region 47 with (go_at_call 84; (with_reducible refine (hcall2.out).mono ?_); rintro e w7 ⟨hb7, y, vb, m, vd, rfl, hoy, hxy⟩; have hF7 := hC.out.below hb7; have z7 := (cell_blockT hF7.row 7).trans rfl; have z8 := (cell_blockT hF7.row 8).trans rfl; have zf := fun j => frozen_of_row w7 p j _ 33 hF7.row; replace hF7 := Hid.intro hF7; replace hoy := Hid.intro hoy; replace hxy := Hid.intro hxy)
 all_goals first | omega | skip
 have hE := Hid.intro (hC.out.putE hb7 y vb m vd hoy.out)
 generalize ((w7.setCell ⟨p, 7, none⟩ (.slice vb m vd)).setCell ⟨p, 8, none⟩ (.int .u32 y.const)) = w8 at hE ⊢
 clear q0 q1 q2 q3 q4 q5 q6 q7 q8 q9 qf hc2 hcall2 hC z7 z8 zf hF7 hoy
 obtain ⟨q0, q1, q2, q3, q4, q5, q6, q7, q8, q9⟩ := itAt_row hE.out.row
 have qf := fun j => frozen_of_row w8 p j _ 33 hE.out.row
 have hlo := hE.out.lo
 have n1 : ¬ p = w.heap.size := by omega
 have n2 : ¬ w.heap.size = p := by omega
 cases h2 : parseF x1 with
 | error k2 =>
  rw [show whyOf (.error k2 : Except Int Lin) = k2 from rfl]
  have hk2 : (k2 == 0) = false := by rcases parseF_err h2 with rfl | rfl <;> rfl
  clear hxy
  obtain ⟨t0, t1, t2, t3, t4, t5, t6, t7, t8, t9⟩ := itAt_row hE.out.res
  have tf := fun j => frozen_of_row w8 w.heap.size j _ 33 hE.out.res
  have hO : Hid (R0 = .error k2) := by
   show R0 = .error k2
   rw [<- hR0.out]
   simp only [opF, e0, stepF_e, exprF_bad h2]
  go_wp2
  all_goals first | omega | skip
  obtain ⟨s1, s2⟩ := ten_set hE.out.res (.int .i64 0) (.string ⟨#[]⟩) (.int .i64 0) (.int .i64 0) (.int .i64 0) (.int .i32 0) (.int .i64 0) (.slice none 0 0) (.int .u32 0) (.int .i64 0)
  have hB9 := hE.out.bel.grown s2 hE.out.bel.size (fun j hj => by cases hj; exact Nat.le_refl _)
  have how9 := own_low hE.out.own s2 (by have := hE.out.lo; omega)
  generalize ((((((((((w8.setCell ⟨w.heap.size, 0, none⟩ (.int .i64 0)).setCell ⟨w.heap.size, 1, none⟩ (.string ⟨#[]⟩)).setCell ⟨w.heap.size, 2, none⟩ (.int .i64 0)).setCell ⟨w.heap.size, 3, none⟩ (.int .i64 0)).setCell ⟨w.heap.size, 4, none⟩ (.int .i64 0)).setCell ⟨w.heap.size, 5, none⟩ (.int .i32 0)).setCell ⟨w.heap.size, 6, none⟩ (.int .i64 0)).setCell ⟨w.heap.size, 7, none⟩ (.slice none 0 0)).setCell ⟨w.heap.size, 8, none⟩ (.int .u32 0)).setCell ⟨w.heap.size, 9, none⟩ (.int .i64 0)) = w9 at s1 s2 hB9 how9 ⊢
  obtain ⟨k0, k1, k2, k3, k4, k5, k6, k7, k8, k9⟩ := ten_read s1
  refine bodyPost_ret (by simp [results, Tryz.results54, go_sem, k0, k1, k2, k3, k4, k5, k6, k7, k8, k9]; try rfl) rfl ?_
  rw [hO.out]
  exact ⟨hB9, rfl⟩
 | ok y2 =>
  rw [show whyOf (.ok y2 : Except Int Lin) = 0 from rfl]
  obtain rfl := hxy.out y2 h2
  clear hxy
  obtain ⟨X, hX⟩ : ∃ X, { opItm op with e := y2 } = X := ⟨_, rfl⟩
  have hO : Hid (R0 = .ok { X with m := 0 }) := by
   show R0 = .ok { X with m := 0 }
   rw [<- hR0.out, <- hX]
   simp only [opF, e0, stepF_e, exprF_ok h2]; try rfl
  rw [hX] at hE
  clear hX
  clear q0 q1 q2 q3 q4 q5 q6 q7 q8 q9 qf
  obtain ⟨q0, q1, q2, q3, q4, q5, q6, q7, q8, q9⟩ := itAt_row hE.out.row
  have qf := fun j => frozen_of_row w8 p j _ 33 hE.out.row
  have hlo := hE.out.lo
  have n1 : ¬ p = w.heap.size := by omega
  have n2 : ¬ w.heap.size = p := by omega
  obtain ⟨t0, t1, t2, t3, t4, t5, t6, t7, t8, t9⟩ := itAt_row hE.out.res
  have tf := fun j => frozen_of_row w8 w.heap.size j _ 33 hE.out.res
  go_wp2
  all_goals first | omega | skip
  have hG := hE.out.put { X with m := 0 } 5 (.int .i32 0) rfl rfl
  generalize (w8.setCell ⟨p, 5, none⟩ (.int .i32 0)) = w8 at hG ⊢
  obtain ⟨s1, s2⟩ := ten_set hG.res (.int .i64 X.kind) (.string (str X.name)) (.int .i64 X.op) (.int .i64 X.a) (.int .i64 X.b) (.int .i32 0) (.int .i64 X.form) (.slice vb m vd) (.int .u32 X.e.const) (.int .i64 X.n)
  have hB9 := hG.bel.grown s2 hG.bel.size (fun j hj => by cases hj; exact Nat.le_refl _)
  have how9 := own_low hG.own s2 (by have := hG.lo; omega)
  generalize ((((((((((w8.setCell ⟨w.heap.size, 0, none⟩ (.int .i64 X.kind)).setCell ⟨w.heap.size, 1, none⟩ (.string (str X.name))).setCell ⟨w.heap.size, 2, none⟩ (.int .i64 X.op)).setCell ⟨w.heap.size, 3, none⟩ (.int .i64 X.a)).setCell ⟨w.heap.size, 4, none⟩ (.int .i64 X.b)).setCell ⟨w.heap.size, 5, none⟩ (.int .i32 0)).setCell ⟨w.heap.size, 6, none⟩ (.int .i64 X.form)).setCell ⟨w.heap.size, 7, none⟩ (.slice vb m vd)).setCell ⟨w.heap.size, 8, none⟩ (.int .u32 X.e.const)).setCell ⟨w.heap.size, 9, none⟩ (.int .i64 X.n)) = w9 at s1 s2 hB9 how9 ⊢
  obtain ⟨k0, k1, k2, k3, k4, k5, k6, k7, k8, k9⟩ := ten_read s1
  refine bodyPost_ret (by simp [results, Tryz.results54, go_sem, k0, k1, k2, k3, k4, k5, k6, k7, k8, k9]; try rfl) rfl ?_
  rw [hO.out]
  have hnl := own_len how9
  subst hnl
  exact ⟨hB9, vb, _, vd, rfl, rfl, own_tmLies how9⟩
set_option maxHeartbeats 2000000 in
theorem code_13 (op : Int) (hop : 1 <= op /\ op <= 43) (hS : shapeN op = 13) (a : Option Addr) (c : Nat) (x1 x2 : List Tok) (w : World) (hA : RArgsIn w.heap.size w a [x1, x2]) :
  Calls Tryz.prog 54 #[.int .i64 op, .slice a 2 c] w fun e w' => CodeOut w w' (opF (wantsF 13) [x1, x2] 0 (opItm op)) e := by
 have hsh := fun w1 => shape_any op w1
 rw [hS] at hsh
 replace hsh := Hid.intro hsh
 have har : Hid (∀ w1 : World, Calls Tryz.prog 81 #[.int .i64 13] w1 fun e w' => e = .returned (.int .i64 2) /\ w' = w1) := fun w1 => refArgs_any 13 (by omega) w1
 obtain ⟨G, hG⟩ : ∃ G, a = some ⟨G, 0, none⟩ := by
  rcases hA.outer with h | ⟨G, h, _⟩
  ·cases h
  ·exact ⟨G, h⟩
 subst hG
 have e0 : atI (bs (str (wantsF 13))) 0 = 114 := rfl
 have e1 : atI (bs (str (wantsF 13))) (0 + 1) = 101 := rfl
 obtain ⟨R0, hR0⟩ : ∃ R0, opF (wantsF 13) [x1, x2] 0 (opItm op) = R0 := ⟨_, rfl⟩
 rw [hR0]
 replace hR0 := Hid.intro hR0
 have hAH := Hid.intro hA
 clear hA hS
 go_enter Tryz.func54, Tryz.ntmps54
 go_upto_region 15 with (first | (go_at_call 60; (with_reducible refine (hsh.out _).mono ?_); rintro e w1 ⟨rfl, hb1⟩; have hC := Hid.intro (cs2_new hAH.out op hb1)) | (go_at_call 81; (with_reducible refine (har.out _).mono ?_); rintro e w2 ⟨rfl, hw2⟩; obtain rfl : w1 = w2 := hw2.symm))
 all_goals first | omega | skip
 obtain ⟨p, hp⟩ : ∃ p, p = w1.heap.size := ⟨_, rfl⟩
 rw [<- hp] at hC ⊢
 generalize (w1.alloc (.cells #[.int .i64 2, .string ⟨#[]⟩, .int .i64 op, .int .i64 0, .int .i64 0, .int .i32 0, .int .i64 0, .slice none 0 0, .int .u32 0, .int .i64 0] 33)) = w3 at hC ⊢
 clear hp hb1
 obtain ⟨a1, c1, hc1, N1, E1, hW1, hcall1⟩ := regR [x1, x2] G 0 x1 false w3 _ rfl hC.out.ins
 generalize x1.length = l1 at hc1 hcall1
 replace hcall1 := Hid.intro hcall1
 obtain ⟨q0, q1, q2, q3, q4, q5, q6, q7, q8, q9⟩ := itAt_row hC.out.row
 have qf := fun j => frozen_of_row w3 p j _ 33 hC.out.row
 have hlo := hC.out.lo
 have n1 : ¬ p = w.heap.size := by omega
 have n2 : ¬ w.heap.size = p := by omega
 go_upto_region 22 with (go_at_call 82; (with_reducible refine (hcall1.out).mono ?_); rintro e w5 ⟨rfl, hw5⟩; obtain rfl : w3 = w5 := hw5.symm)
 all_goals first | omega | skip
 have hF := Hid.intro (hC.out.put (setReg 0 N1 (opItm op)) 3 (.int .i64 N1) rfl rfl)
 generalize (w3.setCell ⟨p, 3, none⟩ (.int .i64 N1)) = w6 at hF ⊢
 clear q0 q1 q2 q3 q4 q5 q6 q7 q8 q9 qf hc1 hcall1 hC
 obtain ⟨q0, q1, q2, q3, q4, q5, q6, q7, q8, q9⟩ := itAt_row hF.out.row
 have qf := fun j => frozen_of_row w6 p j _ 33 hF.out.row
 have hlo := hF.out.lo
 have n1 : ¬ p = w.heap.size := by omega
 have n2 : ¬ w.heap.size = p := by omega
 cases h1 : regF x1 false with
 | none =>
  rw [h1] at hW1
  obtain ⟨rfl, rfl⟩ := hW1
  obtain ⟨t0, t1, t2, t3, t4, t5, t6, t7, t8, t9⟩ := itAt_row hF.out.res
  have tf := fun j => frozen_of_row w6 w.heap.size j _ 33 hF.out.res
  have hO : Hid (R0 = .error 20) := by
   show R0 = .error 20
   rw [<- hR0.out]
   simp only [opF, e0, stepF_r, h1]; try rfl
  go_wp2
  all_goals first | omega | skip
  obtain ⟨s1, s2⟩ := ten_set hF.out.res (.int .i64 0) (.string ⟨#[]⟩) (.int .i64 0) (.int .i64 0) (.int .i64 0) (.int .i32 0) (.int .i64 0) (.slice none 0 0) (.int .u32 0) (.int .i64 0)
  have hB9 := hF.out.bel.grown s2 hF.out.bel.size (fun j hj => by cases hj; exact Nat.le_refl _)
  have how9 := own_low hF.out.own s2 (by have := hF.out.lo; omega)
  generalize ((((((((((w6.setCell ⟨w.heap.size, 0, none⟩ (.int .i64 0)).setCell ⟨w.heap.size, 1, none⟩ (.string ⟨#[]⟩)).setCell ⟨w.heap.size, 2, none⟩ (.int .i64 0)).setCell ⟨w.heap.size, 3, none⟩ (.int .i64 0)).setCell ⟨w.heap.size, 4, none⟩ (.int .i64 0)).setCell ⟨w.heap.size, 5, none⟩ (.int .i32 0)).setCell ⟨w.heap.size, 6, none⟩ (.int .i64 0)).setCell ⟨w.heap.size, 7, none⟩ (.slice none 0 0)).setCell ⟨w.heap.size, 8, none⟩ (.int .u32 0)).setCell ⟨w.heap.size, 9, none⟩ (.int .i64 0)) = w9 at s1 s2 hB9 how9 ⊢
  obtain ⟨k0, k1, k2, k3, k4, k5, k6, k7, k8, k9⟩ := ten_read s1
  refine bodyPost_ret (by simp [results, Tryz.results54, go_sem, k0, k1, k2, k3, k4, k5, k6, k7, k8, k9]; try rfl) rfl ?_
  rw [hO.out]
  exact ⟨hB9, rfl⟩
 | some r1 =>
  rw [h1] at hW1
  obtain ⟨rfl, rfl⟩ := hW1
  have hr1 := regF_range h1
  obtain ⟨a2, c2, hc2, hT2, _⟩ := rargs_at hF.out.ins (i := 1) (xs := x2) rfl
  have hcall2 := parseW a2 c2 x2 w6 hT2
  clear hT2
  generalize x2.length = l2 at hc2 hcall2
  replace hcall2 := Hid.intro hcall2
  go_upto_region 47 with (go_at_call 84; (with_reducible refine (hcall2.out).mono ?_); rintro e w7 ⟨hb7, y, vb, m, vd, rfl, hoy, hxy⟩; have hF7 := hF.out.below hb7; have z7 := (cell_blockT hF7.row 7).trans rfl; have z8 := (cell_blockT hF7.row 8).trans rfl; have zf := fun j => frozen_of_row w7 p j _ 33 hF7.row; replace hF7 := Hid.intro hF7; replace hoy := Hid.intro hoy; replace hxy := Hid.intro hxy)
  all_goals first | omega | skip
  have hE := Hid.intro (hF.out.putE hb7 y vb m vd hoy.out)
  generalize ((w7.setCell ⟨p, 7, none⟩ (.slice vb m vd)).setCell ⟨p, 8, none⟩ (.int .u32 y.const)) = w8 at hE ⊢
  clear q0 q1 q2 q3 q4 q5 q6 q7 q8 q9 qf hc2 hcall2 hF z7 z8 zf hF7 hoy
  obtain ⟨q0, q1, q2, q3, q4, q5, q6, q7, q8, q9⟩ := itAt_row hE.out.row
  have qf := fun j => frozen_of_row w8 p j _ 33 hE.out.row
  have hlo := hE.out.lo
  have n1 : ¬ p = w.heap.size := by omega
  have n2 : ¬ w.heap.size = p := by omega
  cases h2 : parseF x2 with
  | error k2 =>
   rw [show whyOf (.error k2 : Except Int Lin) = k2 from rfl]
   have hk2 : (k2 == 0) = false := by rcases parseF_err h2 with rfl | rfl <;> rfl
   clear hxy
   obtain ⟨t0, t1, t2, t3, t4, t5, t6, t7, t8, t9⟩ := itAt_row hE.out.res
   have tf := fun j => frozen_of_row w8 w.heap.size j _ 33 hE.out.res
   have hO : Hid (R0 = .error k2) := by
    show R0 = .error k2
    rw [<- hR0.out]
    simp only [opF, e0, e1, stepF_r, stepF_e, h1, exprF_bad h2]
   go_wp2
   all_goals first | omega | skip
   obtain ⟨s1, s2⟩ := ten_set hE.out.res (.int .i64 0) (.string ⟨#[]⟩) (.int .i64 0) (.int .i64 0) (.int .i64 0) (.int .i32 0) (.int .i64 0) (.slice none 0 0) (.int .u32 0) (.int .i64 0)
   have hB9 := hE.out.bel.grown s2 hE.out.bel.size (fun j hj => by cases hj; exact Nat.le_refl _)
   have how9 := own_low hE.out.own s2 (by have := hE.out.lo; omega)
   generalize ((((((((((w8.setCell ⟨w.heap.size, 0, none⟩ (.int .i64 0)).setCell ⟨w.heap.size, 1, none⟩ (.string ⟨#[]⟩)).setCell ⟨w.heap.size, 2, none⟩ (.int .i64 0)).setCell ⟨w.heap.size, 3, none⟩ (.int .i64 0)).setCell ⟨w.heap.size, 4, none⟩ (.int .i64 0)).setCell ⟨w.heap.size, 5, none⟩ (.int .i32 0)).setCell ⟨w.heap.size, 6, none⟩ (.int .i64 0)).setCell ⟨w.heap.size, 7, none⟩ (.slice none 0 0)).setCell ⟨w.heap.size, 8, none⟩ (.int .u32 0)).setCell ⟨w.heap.size, 9, none⟩ (.int .i64 0)) = w9 at s1 s2 hB9 how9 ⊢
   obtain ⟨k0, k1, k2, k3, k4, k5, k6, k7, k8, k9⟩ := ten_read s1
   refine bodyPost_ret (by simp [results, Tryz.results54, go_sem, k0, k1, k2, k3, k4, k5, k6, k7, k8, k9]; try rfl) rfl ?_
   rw [hO.out]
   exact ⟨hB9, rfl⟩
  | ok y2 =>
   rw [show whyOf (.ok y2 : Except Int Lin) = 0 from rfl]
   obtain rfl := hxy.out y2 h2
   clear hxy
   obtain ⟨X, hX⟩ : ∃ X, { setReg 0 N1 (opItm op) with e := y2 } = X := ⟨_, rfl⟩
   have hO : Hid (R0 = .ok { X with m := 0 }) := by
    show R0 = .ok { X with m := 0 }
    rw [<- hR0.out, <- hX]
    simp only [opF, e0, e1, stepF_r, stepF_e, h1, exprF_ok h2]; try rfl
   rw [hX] at hE
   clear hX
   clear q0 q1 q2 q3 q4 q5 q6 q7 q8 q9 qf
   obtain ⟨q0, q1, q2, q3, q4, q5, q6, q7, q8, q9⟩ := itAt_row hE.out.row
   have qf := fun j => frozen_of_row w8 p j _ 33 hE.out.row
   have hlo := hE.out.lo
   have n1 : ¬ p = w.heap.size := by omega
   have n2 : ¬ w.heap.size = p := by omega
   obtain ⟨t0, t1, t2, t3, t4, t5, t6, t7, t8, t9⟩ := itAt_row hE.out.res
   have tf := fun j => frozen_of_row w8 w.heap.size j _ 33 hE.out.res
   go_wp2
   all_goals first | omega | skip
   have hG := hE.out.put { X with m := 0 } 5 (.int .i32 0) rfl rfl
   generalize (w8.setCell ⟨p, 5, none⟩ (.int .i32 0)) = w8 at hG ⊢
   obtain ⟨s1, s2⟩ := ten_set hG.res (.int .i64 X.kind) (.string (str X.name)) (.int .i64 X.op) (.int .i64 X.a) (.int .i64 X.b) (.int .i32 0) (.int .i64 X.form) (.slice vb m vd) (.int .u32 X.e.const) (.int .i64 X.n)
   have hB9 := hG.bel.grown s2 hG.bel.size (fun j hj => by cases hj; exact Nat.le_refl _)
   have how9 := own_low hG.own s2 (by have := hG.lo; omega)
   generalize ((((((((((w8.setCell ⟨w.heap.size, 0, none⟩ (.int .i64 X.kind)).setCell ⟨w.heap.size, 1, none⟩ (.string (str X.name))).setCell ⟨w.heap.size, 2, none⟩ (.int .i64 X.op)).setCell ⟨w.heap.size, 3, none⟩ (.int .i64 X.a)).setCell ⟨w.heap.size, 4, none⟩ (.int .i64 X.b)).setCell ⟨w.heap.size, 5, none⟩ (.int .i32 0)).setCell ⟨w.heap.size, 6, none⟩ (.int .i64 X.form)).setCell ⟨w.heap.size, 7, none⟩ (.slice vb m vd)).setCell ⟨w.heap.size, 8, none⟩ (.int .u32 X.e.const)).setCell ⟨w.heap.size, 9, none⟩ (.int .i64 X.n)) = w9 at s1 s2 hB9 how9 ⊢
   obtain ⟨k0, k1, k2, k3, k4, k5, k6, k7, k8, k9⟩ := ten_read s1
   refine bodyPost_ret (by simp [results, Tryz.results54, go_sem, k0, k1, k2, k3, k4, k5, k6, k7, k8, k9]; try rfl) rfl ?_
   rw [hO.out]
   have hnl := own_len how9
   subst hnl
   exact ⟨hB9, vb, _, vd, rfl, rfl, own_tmLies how9⟩
end Go.Proofs.YtlkmegchaeokgaaGreatDoor
