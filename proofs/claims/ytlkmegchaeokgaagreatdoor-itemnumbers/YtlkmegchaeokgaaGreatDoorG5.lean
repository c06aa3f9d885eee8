/- The document's Read of any line: it says what the program says. -/
import Derived.Test.YtlkmegchaeokgaaGreatDoorR5
import Derived.Test.YtlkmegchaeokgaaGreatDoorDi6
import Derived.Test.YtlkmegchaeokgaaGreatDoorC5
import Derived.Test.YtlkmegchaeokgaaGreatDoorItM
import Derived.Test.YtlkmegchaeokgaaGreatDoorKnown
/- The document's Read of an operation's line, whatever code answers. -/
namespace Go.Proofs.YtlkmegchaeokgaaGreatDoor
open Go.ChangeShapes Go.WideShapes Go.ChangeAt Go.RowKit
set_option linter.unusedVariables false
set_option maxRecDepth 100000
def opR (R : Except Int Itm) (sec : Int) : Except Int Thg := match R with | .error k => .error k | .ok x => if standsB x.kind sec = true then .ok ⟨1, [x], [], linE, 0⟩ else .error 21
theorem tmLies_resT {T : TypeId} {w w' : World} {R : Nat} {va : Option Addr} {ts : List Tm} (h : TmLies w va ts) (hR : w.heap[R]? = some (.cells zero6 T (0, 0))) (hg : w.grownBy w' (some R)) : TmLies w' va ts := by
 rcases h with h | ⟨g, o, ha, hlt, hl⟩
 ·exact .inl h
 ·cases ts with
  | nil => exact .inl rfl
  | cons t r =>
   have h0 := hl 0 t rfl
   have hne : g ≠ R := fun e => by
    subst e
    obtain ⟨k0, k1⟩ := h0
    rw [cell_blockT hR] at k0 k1
    have : o = 0 ∨ o = 1 ∨ o = 2 ∨ o = 3 ∨ o = 4 ∨ o = 5 ∨ 6 <= o := by omega
    rcases this with rfl | rfl | rfl | rfl | rfl | rfl | ho
    ·cases k0
    ·cases k0
    ·cases k1
    ·cases k0
    ·cases k0
    ·cases k0
    ·rw [Array.getElem?_eq_none (by simp; omega)] at k0; cases k0
   have hbk : w'.heap[g]? = w.heap[g]? := hg.block g hlt (by simp [hne])
   refine .inr ⟨g, o, ha, Nat.lt_of_lt_of_le hlt hg.size, fun i x hi => ?_⟩
   obtain ⟨k0, k1⟩ := hl i x hi
   exact ⟨(cell_kept hbk _).trans k0, (cell_kept hbk _).trans k1⟩
theorem items_resT {T : TypeId} {w w' : World} {R : Nat} {vi : Value} {l : List Itm} (h : ItemsLie w vi l) (hR : w.heap[R]? = some (.cells zero6 T (0, 0))) (hg : w.grownBy w' (some R)) : ItemsLie w' vi l := by
 rcases h with h | ⟨q, c, hv, hq, hl⟩
 ·exact .inl h
 ·cases l with
  | nil => exact .inr ⟨q, c, hv, Nat.lt_of_lt_of_le hq hg.size, fun i x hi => by simp at hi⟩
  | cons x0 r =>
   have hne : q ≠ R := fun e => by
    subst e
    obtain ⟨va, n, vc, h1, _⟩ := hl 0 x0 rfl
    have k1 := h1.name
    rw [cell_blockT hR] at k1
    cases k1
   have hbk : w'.heap[q]? = w.heap[q]? := hg.block q hq (by simp [hne])
   refine .inr ⟨q, c, hv, Nat.lt_of_lt_of_le hq hg.size, fun i x hi => ?_⟩
   obtain ⟨va, n, vc, h1, h2, h3⟩ := hl i x hi
   exact ⟨va, n, vc, ⟨(cell_kept hbk _).trans h1.kind, (cell_kept hbk _).trans h1.name, (cell_kept hbk _).trans h1.op, (cell_kept hbk _).trans h1.a, (cell_kept hbk _).trans h1.b, (cell_kept hbk _).trans h1.m, (cell_kept hbk _).trans h1.form, (cell_kept hbk _).trans h1.terms, (cell_kept hbk _).trans h1.const, (cell_kept hbk _).trans h1.n⟩, h2, tmLies_resT h3 hR hg⟩
theorem lie_one {w : World} {q : Nat} {x : Itm} {va : Option Addr} {n vc : Nat} (h : w.heap[q]? = some (.cells (itmCells x (.slice va n vc)) 33 (0, 0))) (hn : n = x.e.terms.length) (ht : TmLies w va x.e.terms) : ItemsLie w (.slice (some ⟨q, 0, none⟩) 1 1) [x] :=
 .inr ⟨q, 1, rfl, blk_lt h, fun i y hi => by
  match i, hi with
  | 0, hi => cases hi; exact ⟨va, n, vc, itAt_row h, hn, ht⟩
  | i + 1, hi => simp at hi⟩
set_option maxHeartbeats 1000000 in
theorem refRead_gen (lb s : List UInt8) (hf : 1 <= findN s) (hf2 : findN s <= 43) (hs0 : s ≠ []) (a : Option Addr) (c : Nat) (args : List (List Tok)) (sec : Int) (w : World) (hA : RArgsIn w.heap.size w a args) (R : Except Int Itm) (hk : ∀ x, R = .ok x -> x.kind = 2) (hoe : ∀ {k : Int}, R = .error k -> k = 20 ∨ k = 21)
  (hc : ∀ w1, RArgsIn w1.heap.size w1 a args -> Calls Tryz.prog 54 #[.int .i64 (findN s), .slice a args.length c] w1 fun e w' => CodeOut w1 w' R e) :
  Calls Tryz.prog 29 #[.agg #[.string (str lb), .string (str s), .slice a args.length c], .int .i64 sec] w fun e w' => Below w.heap.size w w' /\ ThOut w' (opR R sec) e := by
 have hne : ((str s).toList == []) = false := by rw [str_toList]; exact beq_false_of_ne hs0
 have hnm : nm (str s) = s := by simp [nm, str]
 have hfind := fun w1 => refFind_any (str s) w1
 rw [hnm] at hfind
 clear hnm
 generalize findN s = N at hf hf2 hfind hc
 have hgt : (0 : Int) < N := by omega
 have hst0 := rrst_new hA lb s args.length c
 generalize args.length = n0 at hc hst0 ⊢
 have hst : Hid (∀ w1, Below ((w.alloc (.cells #[.string (str lb), .string (str s), .slice a n0 c] 71)).alloc (.cells zero6 38)).heap.size ((w.alloc (.cells #[.string (str lb), .string (str s), .slice a n0 c] 71)).alloc (.cells zero6 38)) w1 -> RRSt w lb s a n0 c args w1) := fun w1 h1 => hst0.below h1
 have hcode : Hid (∀ w1, RRSt w lb s a n0 c args w1 -> Calls Tryz.prog 54 #[.int .i64 N, .slice a n0 c] w1 fun e w' => CodeOut w1 w' R e) := fun w1 h1 => hc w1 (rargs_mono h1.ins h1.bel.size (Nat.le_refl _))
 replace hfind := Hid.intro hfind
 clear hst0 hc hA
 cases R with
 | error k =>
  have hk0 : (k == 0) = false := by rcases hoe rfl with rfl | rfl <;> rfl
  rw [show opR (.error k) sec = .error k from rfl]
  clear hoe hk
  go_enter Tryz.func29, Tryz.ntmps29
  go_upto_region 10 with (first | (go_at_call 53; (with_reducible refine (hfind.out _).mono ?_); rintro e w1 ⟨rfl, hb1⟩; have hS1 := Hid.intro (hst.out w1 hb1); have l1 := (cell_blockT hS1.out.line 1).trans rfl; have l2 := (cell_blockT hS1.out.line 2).trans rfl) | (go_at_call 54; (with_reducible refine (hcode.out w1 hS1.out).mono ?_); rintro e w2 ⟨hb2, rfl⟩; have hS2 := Hid.intro ((hS1.out.below hb2).below (below_alloc w2 (.cells (itmCells itmE (.slice none 0 0)) 33))); have r0 := (cell_blockT hS2.out.res 0).trans rfl; have r1 := (cell_blockT hS2.out.res 1).trans rfl; have r2 := (cell_blockT hS2.out.res 2).trans rfl; have r3 := (cell_blockT hS2.out.res 3).trans rfl; have r4 := (cell_blockT hS2.out.res 4).trans rfl; have r5 := (cell_blockT hS2.out.res 5).trans rfl; have rf := fun j => frozen_of_row (w2.alloc (.cells (itmCells itmE (.slice none 0 0)) 33)) (w.heap.size + 1) j _ 38 hS2.out.res))
  all_goals first | omega | skip
  have hS3 := hS2.out
  clear r0 r1 r2 r3 r4 r5 rf
  generalize (w2.alloc (.cells (itmCells itmE (.slice none 0 0)) 33)) = w3 at hS3 ⊢
  replace hS2 := Hid.intro hS3
  have r0 := (cell_blockT hS2.out.res 0).trans rfl
  have r1 := (cell_blockT hS2.out.res 1).trans rfl
  have r2 := (cell_blockT hS2.out.res 2).trans rfl
  have r3 := (cell_blockT hS2.out.res 3).trans rfl
  have r4 := (cell_blockT hS2.out.res 4).trans rfl
  have r5 := (cell_blockT hS2.out.res 5).trans rfl
  have rf := fun j => frozen_of_row w3 (w.heap.size + 1) j _ 38 hS2.out.res
  go_wp2
  all_goals first | omega | skip
  have hsz := hS2.out.bel.size
  have hrl := blk_lt hS2.out.res
  obtain ⟨s1, s2⟩ := six_setT hS2.out.res (.int .i64 0) (.slice none 0 0) (.string ⟨#[]⟩) (.slice none 0 0) (.int .u32 0) (.int .i64 0)
  have hB9 := (hS2.out.bel).grown s2 (by omega) (fun j hj => by cases hj; omega)
  generalize (((((w3.setCell ⟨w.heap.size + 1, 0, none⟩ (.int .i64 0)).setCell ⟨w.heap.size + 1, 1, none⟩ (.slice none 0 0)).setCell ⟨w.heap.size + 1, 2, none⟩ (.string ⟨#[]⟩)).setCell ⟨w.heap.size + 1, 3, none⟩ (.slice none 0 0)).setCell ⟨w.heap.size + 1, 4, none⟩ (.int .u32 0)).setCell ⟨w.heap.size + 1, 5, none⟩ (.int .i64 0) = w9 at s1 s2 hB9 ⊢
  have k := fun j => cell_blockT s1 j
  have k0 := (k 0).trans rfl
  have k1 := (k 1).trans rfl
  have k2 := (k 2).trans rfl
  have k3 := (k 3).trans rfl
  have k4 := (k 4).trans rfl
  have k5 := (k 5).trans rfl
  refine bodyPost_ret (by simp [results, Tryz.results29, go_sem, k0, k1, k2, k3, k4, k5]; try rfl) rfl ?_
  exact ⟨hB9, rfl⟩
 | ok x =>
  have hxk := hk x rfl
  clear hoe hk
  by_cases hsec : sec = 1
  ·have hnst : standsB x.kind sec = false := by rw [hxk, hsec]; rfl
   rw [show opR (.ok x) sec = .error 21 from by unfold opR; simp only; rw [if_neg (by rw [hnst]; decide)]]
   have hsc : (sec == 1) = true := by simp [hsec]
   clear hxk hnst
   go_enter Tryz.func29, Tryz.ntmps29
   go_upto_region 10 with (first | (go_at_call 53; (with_reducible refine (hfind.out _).mono ?_); rintro e w1 ⟨rfl, hb1⟩; have hS1 := Hid.intro (hst.out w1 hb1); have l1 := (cell_blockT hS1.out.line 1).trans rfl; have l2 := (cell_blockT hS1.out.line 2).trans rfl) | (go_at_call 54; (with_reducible refine (hcode.out w1 hS1.out).mono ?_); rintro e w2 ⟨hb2, va, n, vc, rfl, hnn, _⟩; clear hnn; have hS2 := Hid.intro ((hS1.out.below hb2).below (below_alloc w2 (.cells (itmCells x (.slice va n vc)) 33))); have r0 := (cell_blockT hS2.out.res 0).trans rfl; have r1 := (cell_blockT hS2.out.res 1).trans rfl; have r2 := (cell_blockT hS2.out.res 2).trans rfl; have r3 := (cell_blockT hS2.out.res 3).trans rfl; have r4 := (cell_blockT hS2.out.res 4).trans rfl; have r5 := (cell_blockT hS2.out.res 5).trans rfl; have rf := fun j => frozen_of_row (w2.alloc (.cells (itmCells x (.slice va n vc)) 33)) (w.heap.size + 1) j _ 38 hS2.out.res))
   all_goals first | omega | skip
   have hS3 := hS2.out
   clear r0 r1 r2 r3 r4 r5 rf
   generalize (w2.alloc (.cells (itmCells x (.slice va n vc)) 33)) = w3 at hS3 ⊢
   replace hS2 := Hid.intro hS3
   have r0 := (cell_blockT hS2.out.res 0).trans rfl
   have r1 := (cell_blockT hS2.out.res 1).trans rfl
   have r2 := (cell_blockT hS2.out.res 2).trans rfl
   have r3 := (cell_blockT hS2.out.res 3).trans rfl
   have r4 := (cell_blockT hS2.out.res 4).trans rfl
   have r5 := (cell_blockT hS2.out.res 5).trans rfl
   have rf := fun j => frozen_of_row w3 (w.heap.size + 1) j _ 38 hS2.out.res
   go_wp2
   all_goals first | omega | skip
   have hsz := hS2.out.bel.size
   have hrl := blk_lt hS2.out.res
   obtain ⟨s1, s2⟩ := six_setT hS2.out.res (.int .i64 0) (.slice none 0 0) (.string ⟨#[]⟩) (.slice none 0 0) (.int .u32 0) (.int .i64 0)
   have hB9 := (hS2.out.bel).grown s2 (by omega) (fun j hj => by cases hj; omega)
   generalize (((((w3.setCell ⟨w.heap.size + 1, 0, none⟩ (.int .i64 0)).setCell ⟨w.heap.size + 1, 1, none⟩ (.slice none 0 0)).setCell ⟨w.heap.size + 1, 2, none⟩ (.string ⟨#[]⟩)).setCell ⟨w.heap.size + 1, 3, none⟩ (.slice none 0 0)).setCell ⟨w.heap.size + 1, 4, none⟩ (.int .u32 0)).setCell ⟨w.heap.size + 1, 5, none⟩ (.int .i64 0) = w9 at s1 s2 hB9 ⊢
   have k := fun j => cell_blockT s1 j
   have k0 := (k 0).trans rfl
   have k1 := (k 1).trans rfl
   have k2 := (k 2).trans rfl
   have k3 := (k 3).trans rfl
   have k4 := (k 4).trans rfl
   have k5 := (k 5).trans rfl
   refine bodyPost_ret (by simp [results, Tryz.results29, go_sem, k0, k1, k2, k3, k4, k5]; try rfl) rfl ?_
   exact ⟨hB9, rfl⟩
  ·have hnst : standsB x.kind sec = true := by rw [hxk]; simp [standsB, hsec]
   rw [show opR (.ok x) sec = .ok ⟨1, [x], [], linE, 0⟩ from by unfold opR; simp only; rw [if_pos hnst]]
   have hsc : (sec == 1) = false := by simp [hsec]
   clear hxk hnst
   go_enter Tryz.func29, Tryz.ntmps29
   go_upto_region 11 with (first | (go_at_call 53; (with_reducible refine (hfind.out _).mono ?_); rintro e w1 ⟨rfl, hb1⟩; have hS1 := Hid.intro (hst.out w1 hb1); have l1 := (cell_blockT hS1.out.line 1).trans rfl; have l2 := (cell_blockT hS1.out.line 2).trans rfl) | (go_at_call 54; (with_reducible refine (hcode.out w1 hS1.out).mono ?_); rintro e w2 ⟨hb2, va, n, vc, rfl, hnn, htm⟩; replace hnn := Hid.intro hnn; replace htm := Hid.intro htm; have hS2 := Hid.intro ((hS1.out.below hb2).below (below_alloc w2 (.cells (itmCells x (.slice va n vc)) 33))); have r0 := (cell_blockT hS2.out.res 0).trans rfl; have r1 := (cell_blockT hS2.out.res 1).trans rfl; have r2 := (cell_blockT hS2.out.res 2).trans rfl; have r3 := (cell_blockT hS2.out.res 3).trans rfl; have r4 := (cell_blockT hS2.out.res 4).trans rfl; have r5 := (cell_blockT hS2.out.res 5).trans rfl; have rf := fun j => frozen_of_row (w2.alloc (.cells (itmCells x (.slice va n vc)) 33)) (w.heap.size + 1) j _ 38 hS2.out.res))
   all_goals first | omega | skip
   have hS3 := hS2.out
   have hrow := heap_alloc_new w2 (.cells (itmCells x (.slice va n vc)) 33)
   have htm3 := htm.out.below (below_alloc w2 (.cells (itmCells x (.slice va n vc)) 33)) (Nat.le_refl _)
   obtain ⟨p, hp⟩ : ∃ p, p = w2.heap.size := ⟨_, rfl⟩
   rw [<- hp] at hrow ⊢
   clear r0 r1 r2 r3 r4 r5 rf hp
   generalize (w2.alloc (.cells (itmCells x (.slice va n vc)) 33)) = w3 at hS3 hrow htm3 ⊢
   replace hS2 := Hid.intro hS3
   obtain ⟨q0, q1, q2, q3, q4, q5, q6, q7, q8, q9⟩ := itAt_row hrow
   have hal := Hid.intro (fun o => hS2.out.below (below_alloc w3 o))
   have r0 := fun o => (cell_blockT (hal.out o).res 0).trans rfl
   have r1 := fun o => (cell_blockT (hal.out o).res 1).trans rfl
   have r2 := fun o => (cell_blockT (hal.out o).res 2).trans rfl
   have r3 := fun o => (cell_blockT (hal.out o).res 3).trans rfl
   have r4 := fun o => (cell_blockT (hal.out o).res 4).trans rfl
   have r5 := fun o => (cell_blockT (hal.out o).res 5).trans rfl
   have rf := fun o j => frozen_of_row (w3.alloc o) (w.heap.size + 1) j _ 38 (hal.out o).res
   clear hrow
   replace htm3 := Hid.intro htm3
   go_wp2
   all_goals first | omega | skip
   have hal2 := hal.out (.cells (itmCells x (.slice va n vc)) 33)
   have hsz := hal2.bel.size
   have hit2 : ItemsLie (w3.alloc (.cells (itmCells x (.slice va n vc)) 33)) (.slice (some ⟨w3.heap.size, 0, none⟩) 1 1) [x] := lie_one (heap_alloc_new w3 _) hnn.out (htm3.out.below (below_alloc w3 _) (Nat.le_refl _))
   have hrl := blk_lt hal2.res
   obtain ⟨s1, s2⟩ := six_setT hal2.res (.int .i64 1) (.slice (some ⟨w3.heap.size, 0, none⟩) 1 1) (.string ⟨#[]⟩) (.slice none 0 0) (.int .u32 0) (.int .i64 0)
   have hit9 := items_resT hit2 hal2.res s2
   have hB9 := (hal2.bel).grown s2 (by omega) (fun j hj => by cases hj; omega)
   generalize ((((((w3.alloc (.cells (itmCells x (.slice va n vc)) 33)).setCell ⟨w.heap.size + 1, 0, none⟩ (.int .i64 1)).setCell ⟨w.heap.size + 1, 1, none⟩ (.slice (some ⟨w3.heap.size, 0, none⟩) 1 1)).setCell ⟨w.heap.size + 1, 2, none⟩ (.string ⟨#[]⟩)).setCell ⟨w.heap.size + 1, 3, none⟩ (.slice none 0 0)).setCell ⟨w.heap.size + 1, 4, none⟩ (.int .u32 0)).setCell ⟨w.heap.size + 1, 5, none⟩ (.int .i64 0) = w9 at s1 s2 hB9 hit9 ⊢
   have k := fun j => cell_blockT s1 j
   have k0 := (k 0).trans rfl
   have k1 := (k 1).trans rfl
   have k2 := (k 2).trans rfl
   have k3 := (k 3).trans rfl
   have k4 := (k 4).trans rfl
   have k5 := (k 5).trans rfl
   refine bodyPost_ret (by simp [results, Tryz.results29, go_sem, k0, k1, k2, k3, k4, k5]; try rfl) rfl ?_
   exact ⟨hB9, _, none, 0, 0, rfl, hit9, rfl, TmLies.nil _ _⟩
end Go.Proofs.YtlkmegchaeokgaaGreatDoor
/- The document's named and several. -/
namespace Go.Proofs.YtlkmegchaeokgaaGreatDoor
open Go.ChangeShapes Go.WideShapes Go.ChangeAt Go.RowKit
set_option linter.unusedVariables false
set_option maxRecDepth 100000
theorem legB_nil : legB (str []) = false := rfl
theorem refNamed_any (a : Option Addr) (c : Nat) (arg : List Tok) (w : World) (hT : RToks w a arg) :
  Calls Tryz.prog 86 #[.slice a arg.length c] w fun e w' => e = .returned (nameVI (nameF arg)) /\ w' = w := by
 by_cases h1 : arg.length = 1
 ·match arg, h1, hT with
  | [t], _, hT =>
   obtain ⟨g, o, rfl, q0, q1⟩ := hT.head2
   have hts := hT.short t (by simp)
   clear hT
   by_cases hk : t.kind = 1
   ·rw [hk] at q0
    have hw : wordF [t] = t.text := by simp [wordF, hk]
    have hl := refLegal_any (str t.text) (by rw [str_sizeI]; omega) w
    have hF : nameF [t] = if legB (str t.text) = true then .ok t.text else .error 20 := by unfold nameF; rw [hw]
    rw [hF]
    clear hF hw hk hts
    generalize legB (str t.text) = ok at hl ⊢
    replace hl := Hid.intro hl
    cases ok
    ·rw [if_neg (by simp)]
     show Calls Tryz.prog 86 #[.slice (some ⟨g, o, none⟩) 1 c] w _
     go_enter Tryz.func86, Tryz.ntmps86
     go_wp2_with (go_at_call 32; (with_reducible refine (hl.out).mono ?_); rintro e w1 ⟨rfl, hw1⟩; obtain rfl : w = w1 := hw1.symm)
     all_goals first | omega | skip
     go_ret2
     exact ⟨rfl, rfl⟩
    ·rw [if_pos rfl]
     show Calls Tryz.prog 86 #[.slice (some ⟨g, o, none⟩) 1 c] w _
     go_enter Tryz.func86, Tryz.ntmps86
     go_wp2_with (go_at_call 32; (with_reducible refine (hl.out).mono ?_); rintro e w1 ⟨rfl, hw1⟩; obtain rfl : w = w1 := hw1.symm)
     all_goals first | omega | skip
     go_ret2
     exact ⟨rfl, rfl⟩
   ·have hF : nameF [t] = .error 20 := by unfold nameF; rw [show wordF [t] = [] from by simp [wordF, hk], legB_nil]; rfl
    rw [hF]
    have hk' : (t.kind == 1) = false := by simp [hk]
    show Calls Tryz.prog 86 #[.slice (some ⟨g, o, none⟩) 1 c] w _
    go_enter Tryz.func86, Tryz.ntmps86
    go_wp2
    all_goals first | omega | skip
    go_ret2
    exact ⟨rfl, rfl⟩
 ·have hF : nameF arg = .error 20 := by unfold nameF; rw [wordF_other h1, legB_nil]; rfl
  rw [hF]
  clear hT hF
  generalize arg.length = n0 at h1 ⊢
  have h1' : ¬ ((n0 : Int) = 1) := by omega
  go_enter Tryz.func86, Tryz.ntmps86
  go_wp2
  all_goals first | omega | skip
  go_ret2
  exact ⟨rfl, rfl⟩
structure DvSt (w : World) (kind : Int) (a : Option Addr) (args : List (List Tok)) (R0 : Except Int (List Itm)) (i : Nat) (p : List (Itm × Value)) (a1 : Option Addr) (L c1 : Nat) (wr : World) : Prop where
 bel : Below w.heap.size w wr
 res : wr.heap[w.heap.size]? = some (.cells zero6 38 (0, 0))
 row : wr.heap[w.heap.size + 1]? = some (.cells #[.int .i64 2, .slice a1 L c1, .string ⟨#[]⟩, .slice none 0 0, .int .u32 0, .int .i64 0] 38 (0, 0))
 ins : RArgsIn w.heap.size wr a args
 own : ItOwn (w.heap.size + 2) wr (.slice a1 L c1) p
 len : L = p.length
 eq : R0 = itsAcc (p.map (·.1)) (itsF kind (args.drop i))
 few : L <= i
theorem DvSt.below {w : World} {kind : Int} {a : Option Addr} {args : List (List Tok)} {R0 : Except Int (List Itm)} {i : Nat} {p : List (Itm × Value)} {a1 : Option Addr} {L c1 : Nat} {wr w' : World} (h : DvSt w kind a args R0 i p a1 L c1 wr) (hb : Below wr.heap.size wr w') : DvSt w kind a args R0 i p a1 L c1 w' :=
 ⟨h.bel.trans (hb.mono h.bel.size), by rw [hb.block _ (blk_lt h.res)]; exact h.res, by rw [hb.block _ (blk_lt h.row)]; exact h.row, h.ins.below (hb.mono h.bel.size), h.own.below hb, h.len, h.eq, h.few⟩
theorem DvSt.push {w : World} {kind : Int} {a : Option Addr} {args : List (List Tok)} {R0 : Except Int (List Itm)} {i : Nat} {p : List (Itm × Value)} {a1 : Option Addr} {L c1 : Nat} {wr wa w3 : World} (h : DvSt w kind a args R0 i p a1 L c1 wr) (hb : Below wr.heap.size wr wa) {arg : List Tok} (harg : args[i]? = some arg) {q : Itm × Value} (hit : itOf kind arg = .ok q.1) (hq : wr.ownsRow (w.heap.size + 2) 61 2 q.2 q.1.e.terms.length (rowT q.1.e.terms))
  {a3 : Option Addr} {c3 : Nat} (hrow : w3.ownsRow (w.heap.size + 2) 33 10 (.slice a3 (L + 1) c3) (L + 1) (rowI (p ++ [q]))) (hg : wa.grownBy w3 (Value.slice a1 L c1).ownBlock) : DvSt w kind a args R0 (i + 1) (p ++ [q]) a3 (L + 1) c3 (w3.setCell ⟨w.heap.size + 1, 1, none⟩ (.slice a3 (L + 1) c3)) /\ w3.heap[w.heap.size + 1]? = some (.cells #[.int .i64 2, .slice a1 L c1, .string ⟨#[]⟩, .slice none 0 0, .int .u32 0, .int .i64 0] 38 (0, 0)) := by
 have hk := h.below hb
 have hlt := blk_lt hk.row
 have hlt0 := blk_lt hk.res
 have hnb : ∀ b, b < w.heap.size + 2 -> (Value.slice a1 L c1).ownBlock ≠ some b := fun b hb2 e => by have := (hk.own.row.lt _ e).1; omega
 have h3 : w3.heap[w.heap.size + 1]? = some (.cells #[.int .i64 2, .slice a1 L c1, .string ⟨#[]⟩, .slice none 0 0, .int .u32 0, .int .i64 0] 38 (0, 0)) := by rw [hg.block _ hlt (fun e => hnb _ (by omega) e.symm)]; exact hk.row
 have h0 : w3.heap[w.heap.size]? = some (.cells zero6 38 (0, 0)) := by rw [hg.block _ hlt0 (fun e => hnb _ (by omega) e.symm)]; exact hk.res
 obtain ⟨s1, s2⟩ := row_set h3 1 (.slice a3 (L + 1) c3)
 have hlen := h.len
 have hB3 : Below w.heap.size wa w3 := (Below.refl _ wa).grown hg (by omega) (fun j hj => by have := (hk.own.row.lt _ hj).1; omega)
 have hsz := hg.size
 have hB4 : Below w.heap.size wa (w3.setCell ⟨w.heap.size + 1, 1, none⟩ (.slice a3 (L + 1) c3)) := hB3.grown s2 (by omega) (fun j hj => by cases hj; omega)
 refine ⟨⟨hk.bel.trans hB4, ?_, s1, hk.ins.below hB4, ?_, by simp [hlen], ?_, by have := h.few; omega⟩, h3⟩
 ·rw [s2.block _ (blk_lt h0) (by simp)]; exact h0
 ·refine ItOwn.low ?_ s2 (by omega)
  exact hk.own.push (own_below' hq hb) hg (by rw [<- hlen]; exact hrow)
 ·rw [h.eq, drop_at args i arg harg, itsF, hit]
  simp only [itsAcc]
  cases itsF kind (List.drop (i + 1) args) with
  | error k => rfl
  | ok l => simp
theorem DvSt.fin {w : World} {kind : Int} {a : Option Addr} {args : List (List Tok)} {R0 : Except Int (List Itm)} {i : Nat} {p : List (Itm × Value)} {a1 : Option Addr} {L c1 : Nat} {wr : World} (h : DvSt w kind a args R0 i p a1 L c1 wr) (hi : args.length <= i) : R0 = .ok (p.map (·.1)) := by
 rw [h.eq, List.drop_eq_nil_of_le hi]
 simp [itsF, itsAcc]
theorem DvSt.err {w : World} {kind : Int} {a : Option Addr} {args : List (List Tok)} {R0 : Except Int (List Itm)} {i : Nat} {p : List (Itm × Value)} {a1 : Option Addr} {L c1 : Nat} {wr : World} (h : DvSt w kind a args R0 i p a1 L c1 wr) {arg : List Tok} (harg : args[i]? = some arg) {k : Int} (hit : itOf kind arg = .error k) : R0 = .error k := by
 rw [h.eq, drop_at args i arg harg, itsF, hit]
 rfl
def dsevR (R : Except Int (List Itm)) : Except Int Thg := match R with | .error k => .error k | .ok l => .ok ⟨2, l, [], linE, 0⟩
theorem byte_rcon (arg : List Tok) : numF 5 arg = rconF arg (-128) 255 := by
 unfold numF rconF
 cases constF arg with
 | error k => rfl
 | ok n =>
  simp only
  by_cases h : -128 <= n /\ n <= 255
  ·rw [if_pos h, if_pos (by simp [numOfB, h])]
  ·rw [if_neg h, if_neg (by simp [numOfB]; omega)]
theorem space_rcon (arg : List Tok) : numF 7 arg = rconF arg 0 1048576 := by
 unfold numF rconF
 cases constF arg with
 | error k => rfl
 | ok n =>
  simp only
  by_cases h : 0 <= n /\ n <= 1048576
  ·rw [if_pos h, if_pos (by simp [numOfB, h])]
  ·rw [if_neg h, if_neg (by simp [numOfB]; omega)]
set_option maxHeartbeats 4000000 in
theorem dsev_5 (a : Option Addr) (c : Nat) (args : List (List Tok)) (hm : args.length <= 1100000) (w : World) (hA : RArgsIn w.heap.size w a args) :
  Calls Tryz.prog 85 #[.string (str sByte), .slice a args.length c] w fun e w' => Below w.heap.size w w' /\ ThOut w' (dsevR (itsF 5 args)) e := by
 obtain ⟨R0, hR0⟩ : ∃ R0, itsF 5 args = R0 := ⟨_, rfl⟩
 generalize hS : str sByte = S
 have dB : (S.toList == [98, 121, 116, 101]) = true := by rw [<- hS, str_toList]; rfl
 clear hS
 have hst : Hid (DvSt w 5 a args R0 0 [] none 0 0 ((w.alloc (.cells zero6 38)).alloc (.cells #[.int .i64 2, .slice none 0 0, .string ⟨#[]⟩, .slice none 0 0, .int .u32 0, .int .i64 0] 38))) := by
  have hs1 : (w.alloc (.cells zero6 38)).heap.size = w.heap.size + 1 := by simp
  have hB : Below w.heap.size w ((w.alloc (.cells zero6 38)).alloc (.cells #[.int .i64 2, .slice none 0 0, .string ⟨#[]⟩, .slice none 0 0, .int .u32 0, .int .i64 0] 38)) := (below_alloc w _).alloc (by simp) _
  refine ⟨hB, ?_, ?_, hA.below hB, ItOwn.start _ _, rfl, ?_, Nat.le_refl _⟩
  ·rw [Below.heap_alloc _ _ _ (by omega)]; exact heap_alloc_new w _
  ·rw [<- hs1]; exact heap_alloc_new _ _
  ·rw [<- hR0]; simp only [itsAcc, List.drop_zero]; cases itsF 5 args <;> rfl
 rw [hR0]
 clear hR0 hA
 obtain ⟨n0, hn0⟩ : ∃ n0, n0 = args.length := ⟨_, rfl⟩
 rw [<- hn0] at hm ⊢
 replace hn0 := Hid.intro hn0
 go_enter Tryz.func85, Tryz.ntmps85
 go_wp2
 go_loopw [7] (fun v7 wr => ∃ (i : Nat) (p : List (Itm × Value)) (a1 : Option Addr) (L c1 : Nat), i <= n0 /\ v7 = .int .i64 (i : Int) /\ Hid (DvSt w 5 a args R0 i p a1 L c1 wr)) (fun v7 wr => n0 - (intOf v7).toNat)
 case atStart => exact ⟨0, [], none, 0, 0, by omega, rfl, hst⟩
 case round =>
  clear hst
  obtain ⟨i, p, a1, L, c1, hi, rfl, hS⟩ := hrel
  by_cases hlt : i < n0
  ·obtain ⟨arg, harg⟩ : ∃ arg, args[i]? = some arg := ⟨args[i]'(by rw [<- hn0.out]; exact hlt), List.getElem?_eq_getElem _⟩
   have hlt2 : (i : Int) < (n0 : Int) := by omega
   have hLn : L <= 1100000 := by have := hS.out.few; omega
   obtain ⟨G, hG⟩ : ∃ G, a = some ⟨G, 0, none⟩ := by
    rcases hS.out.ins.outer with h | ⟨G, h, _⟩
    ·rw [h] at harg; simp at harg
    ·exact ⟨G, h⟩
   subst hG
   have hAl := Hid.intro (fun o => hS.out.below (below_alloc wr o))
   obtain ⟨a', c', hcell, Nn, W, hCW, hone⟩ := conR args G i arg (-128) 255 (wr.alloc (.cells #[.int .i64 5, .string ⟨#[]⟩, .int .i64 0, .int .i64 0, .int .i64 0, .int .i32 0, .int .i64 0, .slice none 0 0, .int .u32 0, .int .i64 0] 33)) _ harg (hAl.out (.cells #[.int .i64 5, .string ⟨#[]⟩, .int .i64 0, .int .i64 0, .int .i64 0, .int .i32 0, .int .i64 0, .slice none 0 0, .int .u32 0, .int .i64 0] 33)).ins
   obtain ⟨R1, hR1⟩ : ∃ R1, itOf 5 arg = R1 := ⟨_, rfl⟩
   have hse := @itOf_err 5 arg
   rw [hR1] at hse
   have hWR : Hid (NumW 5 R1 Nn W) := by
    show NumW 5 R1 Nn W
    rw [<- hR1]
    unfold itOf
    rw [if_neg (by decide), byte_rcon]
    cases hrc : rconF arg (-128) 255 with
    | error k => rw [hrc] at hCW; exact hCW
    | ok n => rw [hrc] at hCW; obtain ⟨h1, h2⟩ := hCW; subst h1; exact ⟨h2, rfl⟩
   clear hCW
   have hargH := Hid.intro harg
   have hR1H := Hid.intro hR1
   clear harg hR1
   generalize arg.length = ln at hcell hone
   replace hone := Hid.intro hone
   go_upto_region 11 with (go_at_call 83; (with_reducible refine (hone.out).mono ?_); rintro e w1 ⟨rfl, hb1⟩; obtain ⟨hx1, hB1⟩ := box_set (x := { itmE with kind := 5 }) (v0 := .slice none 0 0) rfl hb1; have x9 := (cell_blockT hx1 9).trans rfl; have xf := frozen_of_row w1 wr.heap.size 9 _ 33 hx1; replace hx1 := Hid.intro hx1)
   all_goals first | omega | skip
   obtain ⟨s1, s2⟩ := row_set hx1.out 9 (.int .i64 Nn)
   have hsz1 := hB1.size
   have hB2 : Below wr.heap.size wr (w1.setCell ⟨wr.heap.size, 9, none⟩ (.int .i64 Nn)) := hB1.grown s2 (by omega) (fun j hj => by cases hj; exact Nat.le_refl _)
   have hG2 : Hid ((w1.setCell ⟨wr.heap.size, 9, none⟩ (.int .i64 Nn)).heap[wr.heap.size]? = some (.cells (itmCells { itmE with kind := 5, n := Nn } (.slice none 0 0)) 33 (0, 0))) := s1
   clear s1 s2 x9 xf hx1 hone
   generalize (w1.setCell ⟨wr.heap.size, 9, none⟩ (.int .i64 Nn)) = w2 at hB2 hG2 ⊢
   have hQ : Hid (w2.ownsRow (w.heap.size + 2) 61 2 (.slice none 0 0) linE.terms.length (rowT linE.terms)) := World.ownsRow_nil _ _ _ _
   have hS2 : Hid (DvSt w 5 (some ⟨G, 0, none⟩) args R0 i p a1 L c1 w2) := hS.out.below hB2
   clear hcell hAl
   cases R1 with
   | error k =>
    have hk0 : (k == 0) = false := by rcases hse rfl with rfl | rfl <;> rfl
    obtain rfl : W = k := hWR.out
    obtain ⟨r0, r1, r2, r3, r4, r5⟩ := six_read hS2.out.res
    have rf := fun j => frozen_of_row w2 w.heap.size j _ 38 hS2.out.res
    go_wp2
    all_goals first | omega | skip
    have hsz := hS2.out.bel.size
    have hrl := blk_lt hS2.out.res
    obtain ⟨s1, s2⟩ := six_setT hS2.out.res (.int .i64 0) (.slice none 0 0) (.string ⟨#[]⟩) (.slice none 0 0) (.int .u32 0) (.int .i64 0)
    have hB9 := (hS2.out.bel).grown s2 (by omega) (fun j hj => by cases hj; omega)
    generalize ((((((w2.setCell ⟨w.heap.size, 0, none⟩ (.int .i64 0)).setCell ⟨w.heap.size, 1, none⟩ (.slice none 0 0)).setCell ⟨w.heap.size, 2, none⟩ (.string ⟨#[]⟩)).setCell ⟨w.heap.size, 3, none⟩ (.slice none 0 0)).setCell ⟨w.heap.size, 4, none⟩ (.int .u32 0)).setCell ⟨w.heap.size, 5, none⟩ (.int .i64 0)) = w9 at s1 s2 hB9 ⊢
    obtain ⟨k0, k1, k2, k3, k4, k5⟩ := six_read s1
    refine bodyPost_ret (by simp [results, Tryz.results85, go_sem, k0, k1, k2, k3, k4, k5]; try rfl) rfl ?_
    rw [hS2.out.err hargH.out hR1H.out]
    exact ⟨hB9, rfl⟩
   | ok x =>
    obtain ⟨hW0, hx⟩ : W = 0 /\ { itmE with kind := 5, n := Nn } = x := hWR.out
    subst hW0
    subst hx
    clear hse
    have hG2L : w2.heap[wr.heap.size]? = some (.cells #[.int .i64 5, .string ⟨#[]⟩, .int .i64 0, .int .i64 0, .int .i64 0, .int .i32 0, .int .i64 0, .slice none 0 0, .int .u32 0, .int .i64 Nn] 33 (0, 0)) := hG2.out
    have y0 := (cell_blockT hG2L 0).trans rfl
    have y1 := (cell_blockT hG2L 1).trans rfl
    have y2 := (cell_blockT hG2L 2).trans rfl
    have y3 := (cell_blockT hG2L 3).trans rfl
    have y4 := (cell_blockT hG2L 4).trans rfl
    have y5 := (cell_blockT hG2L 5).trans rfl
    have y6 := (cell_blockT hG2L 6).trans rfl
    have y7 := (cell_blockT hG2L 7).trans rfl
    have y8 := (cell_blockT hG2L 8).trans rfl
    have y9 := (cell_blockT hG2L 9).trans rfl
    replace hG2L := Hid.intro hG2L
    have z1 := (cell_blockT hS2.out.row 1).trans rfl
    have hsz2 := blk_lt hS2.out.row
    obtain ⟨i0, hi0, hz0, hz1, hz2⟩ := info_parts info33
    have hownH : Hid (w2.ownsRow (w.heap.size + 2) 33 10 (.slice a1 L c1) L (rowI p)) := by
     have := hS2.out.own.row
     rw [<- hS2.out.len] at this
     exact this
    go_wp2_with (at_builtin; go_must (refine wpList_append_own_wide _ rfl (.tmp 44) (.tmp 46) 35 rfl (w.heap.size + 2) 33 i0 (.agg #[.int .i64 0, .string ⟨#[]⟩, .int .i64 0, .int .i64 0, .int .i64 0, .int .i32 0, .int .i64 0, .slice none 0 0, .int .u32 0, .int .i64 0]) 10 104 Tryz.underlying35 hi0 hz0 hz1 hz2 rfl (by decide) (.slice a1 L c1) L (rowI p) rfl (hownH.out.alloc _) ⟨w2.heap.size, 0, none⟩ 1 1 [.int .i64 5, .string ⟨#[]⟩, .int .i64 0, .int .i64 0, .int .i64 0, .int .i32 0, .int .i64 0, .slice none 0 0, .int .u32 0, .int .i64 Nn] rfl rfl (cells_new _ _ _) (by simp [Value.oneCell']) (by unfold maxLen; omega) (by omega) (by simp; omega) ?_; intro v3 w3 ho3 hg3 _; obtain ⟨a3, c3, rfl⟩ := own_slice ho3; obtain ⟨hpf, hb3⟩ := hS2.out.push (below_alloc w2 _) hargH.out (q := ({ itmE with kind := 5, n := Nn }, Value.slice none 0 0)) hR1H.out hQ.out (by rw [rowI_push]; exact ho3) hg3; replace hpf := Hid.intro hpf; have u1 := (cell_blockT hb3 1).trans rfl; have uf := frozen_of_row w3 (w.heap.size + 1) 1 _ 38 hb3; clear hb3))
    all_goals first | omega | skip
    go_roundw
    case rel => exact ⟨i + 1, _, _, _, _, by omega, by go_num, hpf⟩
    case measure => simp [intOf]; omega
  ·have hin : i = n0 := by omega
   have hfin : Hid (R0 = .ok (p.map (·.1))) := hS.out.fin (by rw [<- hn0.out]; omega)
   subst hin
   have hlt3 : ¬ ((i : Int) < (i : Int)) := by omega
   have z0 := (cell_blockT hS.out.row 0).trans rfl
   have z1 := (cell_blockT hS.out.row 1).trans rfl
   have z2 := (cell_blockT hS.out.row 2).trans rfl
   have z3 := (cell_blockT hS.out.row 3).trans rfl
   have z4 := (cell_blockT hS.out.row 4).trans rfl
   have z5 := (cell_blockT hS.out.row 5).trans rfl
   obtain ⟨r0, r1, r2, r3, r4, r5⟩ := six_read hS.out.res
   have rf := fun j => frozen_of_row wr w.heap.size j _ 38 hS.out.res
   go_wp2
   all_goals first | omega | skip
   have hsz := hS.out.bel.size
   have hrl := blk_lt hS.out.res
   obtain ⟨s1, s2⟩ := six_setT hS.out.res (.int .i64 2) (.slice a1 L c1) (.string ⟨#[]⟩) (.slice none 0 0) (.int .u32 0) (.int .i64 0)
   have hB9 := (hS.out.bel).grown s2 (by omega) (fun j hj => by cases hj; omega)
   have hit9 := (hS.out.own.low s2 (by omega)).lies
   generalize ((((((wr.setCell ⟨w.heap.size, 0, none⟩ (.int .i64 2)).setCell ⟨w.heap.size, 1, none⟩ (.slice a1 L c1)).setCell ⟨w.heap.size, 2, none⟩ (.string ⟨#[]⟩)).setCell ⟨w.heap.size, 3, none⟩ (.slice none 0 0)).setCell ⟨w.heap.size, 4, none⟩ (.int .u32 0)).setCell ⟨w.heap.size, 5, none⟩ (.int .i64 0)) = w9 at s1 s2 hB9 hit9 ⊢
   obtain ⟨k0, k1, k2, k3, k4, k5⟩ := six_read s1
   refine bodyPost_ret (by simp [results, Tryz.results85, go_sem, k0, k1, k2, k3, k4, k5]; try rfl) rfl ?_
   rw [hfin.out]
   exact ⟨hB9, .slice a1 L c1, none, 0, 0, rfl, hit9, rfl, TmLies.nil _ _⟩
set_option maxHeartbeats 4000000 in
theorem dsev_6 (a : Option Addr) (c : Nat) (args : List (List Tok)) (hm : args.length <= 1100000) (w : World) (hA : RArgsIn w.heap.size w a args) :
  Calls Tryz.prog 85 #[.string (str sWord), .slice a args.length c] w fun e w' => Below w.heap.size w w' /\ ThOut w' (dsevR (itsF 6 args)) e := by
 obtain ⟨R0, hR0⟩ : ∃ R0, itsF 6 args = R0 := ⟨_, rfl⟩
 generalize hS : str sWord = S
 have dB : (S.toList == [98, 121, 116, 101]) = false := by rw [<- hS, str_toList]; rfl
 clear hS
 have hst : Hid (DvSt w 6 a args R0 0 [] none 0 0 ((w.alloc (.cells zero6 38)).alloc (.cells #[.int .i64 2, .slice none 0 0, .string ⟨#[]⟩, .slice none 0 0, .int .u32 0, .int .i64 0] 38))) := by
  have hs1 : (w.alloc (.cells zero6 38)).heap.size = w.heap.size + 1 := by simp
  have hB : Below w.heap.size w ((w.alloc (.cells zero6 38)).alloc (.cells #[.int .i64 2, .slice none 0 0, .string ⟨#[]⟩, .slice none 0 0, .int .u32 0, .int .i64 0] 38)) := (below_alloc w _).alloc (by simp) _
  refine ⟨hB, ?_, ?_, hA.below hB, ItOwn.start _ _, rfl, ?_, Nat.le_refl _⟩
  ·rw [Below.heap_alloc _ _ _ (by omega)]; exact heap_alloc_new w _
  ·rw [<- hs1]; exact heap_alloc_new _ _
  ·rw [<- hR0]; simp only [itsAcc, List.drop_zero]; cases itsF 6 args <;> rfl
 rw [hR0]
 clear hR0 hA
 obtain ⟨n0, hn0⟩ : ∃ n0, n0 = args.length := ⟨_, rfl⟩
 rw [<- hn0] at hm ⊢
 replace hn0 := Hid.intro hn0
 go_enter Tryz.func85, Tryz.ntmps85
 go_wp2
 go_loopw [7] (fun v7 wr => ∃ (i : Nat) (p : List (Itm × Value)) (a1 : Option Addr) (L c1 : Nat), i <= n0 /\ v7 = .int .i64 (i : Int) /\ Hid (DvSt w 6 a args R0 i p a1 L c1 wr)) (fun v7 wr => n0 - (intOf v7).toNat)
 case atStart => exact ⟨0, [], none, 0, 0, by omega, rfl, hst⟩
 case round =>
  clear hst
  obtain ⟨i, p, a1, L, c1, hi, rfl, hS⟩ := hrel
  by_cases hlt : i < n0
  ·obtain ⟨arg, harg⟩ : ∃ arg, args[i]? = some arg := ⟨args[i]'(by rw [<- hn0.out]; exact hlt), List.getElem?_eq_getElem _⟩
   have hlt2 : (i : Int) < (n0 : Int) := by omega
   have hLn : L <= 1100000 := by have := hS.out.few; omega
   obtain ⟨G, hG⟩ : ∃ G, a = some ⟨G, 0, none⟩ := by
    rcases hS.out.ins.outer with h | ⟨G, h, _⟩
    ·rw [h] at harg; simp at harg
    ·exact ⟨G, h⟩
   subst hG
   have hAl := Hid.intro (fun o => hS.out.below (below_alloc wr o))
   have hAl6 : Hid (DvSt w 6 (some ⟨G, 0, none⟩) args R0 i p a1 L c1 (wr.alloc (.cells #[.int .i64 6, .string ⟨#[]⟩, .int .i64 0, .int .i64 0, .int .i64 0, .int .i32 0, .int .i64 0, .slice none 0 0, .int .u32 0, .int .i64 0] 33))) := hAl.out _
   obtain ⟨a', c', hcell, hT2, _⟩ := rargs_at hAl6.out.ins harg
   have hone := parseW a' c' arg _ hT2
   clear hT2
   obtain ⟨R1, hR1⟩ : ∃ R1, itOf 6 arg = R1 := ⟨_, rfl⟩
   have hse := @itOf_err 6 arg
   rw [hR1] at hse
   obtain ⟨W, hW, hWR0⟩ : ∃ W, whyOf (parseF arg) = W /\ Hid (WhyW R1 W) := by
    rw [<- hR1]
    unfold itOf
    rw [if_pos rfl]
    unfold exprF
    cases parseF arg with
    | error k => exact ⟨k, rfl, rfl⟩
    | ok y => exact ⟨0, rfl, rfl⟩
   rw [hW] at hone
   clear hW
   have hpR : Hid (∀ x, R1 = .ok x -> ∃ y, parseF arg = .ok y /\ x = { itmE with kind := 6, e := y }) := fun x hx => by
    rw [<- hR1] at hx
    unfold itOf at hx
    rw [if_pos rfl] at hx
    unfold exprF at hx
    cases hp : parseF arg with
    | error k => rw [hp] at hx; cases hx
    | ok y => rw [hp] at hx; cases hx; exact ⟨y, rfl, rfl⟩
   have hargH := Hid.intro harg
   have hR1H := Hid.intro hR1
   clear harg hR1
   generalize arg.length = ln at hcell hone
   replace hone := Hid.intro hone
   go_upto_region 11 with (go_at_call 84; (with_reducible refine (hone.out).mono ?_); rintro e w1 ⟨hb1, y, vb, m, vd, rfl, hoy, hxy⟩; obtain ⟨hx1, hB1⟩ := box_set (x := { itmE with kind := 6 }) (v0 := .slice none 0 0) rfl hb1; have x7 := (cell_blockT hx1 7).trans rfl; have x8 := (cell_blockT hx1 8).trans rfl; have xf7 := frozen_of_row w1 wr.heap.size 7 _ 33 hx1; have xf8 := frozen_of_row w1 wr.heap.size 8 _ 33 hx1; replace hx1 := Hid.intro hx1; replace hoy := Hid.intro hoy; replace hxy := Hid.intro hxy)
   all_goals first | omega | skip
   obtain ⟨s1, s2⟩ := row_set hx1.out 7 (.slice vb m vd)
   obtain ⟨t1, t2⟩ := row_set s1 8 (.int .u32 y.const)
   have hg12 := grown_trans s2 t2
   have hsz1 := hB1.size
   have hszA : (wr.alloc (.cells #[.int .i64 6, .string ⟨#[]⟩, .int .i64 0, .int .i64 0, .int .i64 0, .int .i32 0, .int .i64 0, .slice none 0 0, .int .u32 0, .int .i64 0] 33)).heap.size = wr.heap.size + 1 := by simp
   have hrsz := blk_lt hS.out.row
   have hB2 : Below wr.heap.size wr ((w1.setCell ⟨wr.heap.size, 7, none⟩ (.slice vb m vd)).setCell ⟨wr.heap.size, 8, none⟩ (.int .u32 y.const)) := hB1.grown hg12 (by omega) (fun j hj => by cases hj; exact Nat.le_refl _)
   have hG2 : Hid (((w1.setCell ⟨wr.heap.size, 7, none⟩ (.slice vb m vd)).setCell ⟨wr.heap.size, 8, none⟩ (.int .u32 y.const)).heap[wr.heap.size]? = some (.cells (itmCells { itmE with kind := 6, e := y } (.slice vb m vd)) 33 (0, 0))) := t1
   have hQ : Hid (((w1.setCell ⟨wr.heap.size, 7, none⟩ (.slice vb m vd)).setCell ⟨wr.heap.size, 8, none⟩ (.int .u32 y.const)).ownsRow (w.heap.size + 2) 61 2 (.slice vb m vd) y.terms.length (rowT y.terms)) := own_weaken (own_low hoy.out hg12 (by omega)) (by omega)
   have hWR : Hid (ExpW R1 y W) := by
    show ExpW R1 y W
    cases R1 with
    | error k => exact hWR0.out
    | ok x =>
     obtain ⟨y', h1, h2⟩ := hpR.out x rfl
     obtain rfl := hxy.out y' h1
     exact ⟨hWR0.out, h2.symm⟩
   clear s1 s2 t1 t2 x7 x8 xf7 xf8 hx1 hone hoy hxy hWR0 hg12 hpR
   generalize ((w1.setCell ⟨wr.heap.size, 7, none⟩ (.slice vb m vd)).setCell ⟨wr.heap.size, 8, none⟩ (.int .u32 y.const)) = w2 at hB2 hG2 hQ ⊢
   have hS2 : Hid (DvSt w 6 (some ⟨G, 0, none⟩) args R0 i p a1 L c1 w2) := hS.out.below hB2
   clear hcell hAl
   cases R1 with
   | error k =>
    have hk0 : (k == 0) = false := by rcases hse rfl with rfl | rfl <;> rfl
    obtain rfl : W = k := hWR.out
    obtain ⟨r0, r1, r2, r3, r4, r5⟩ := six_read hS2.out.res
    have rf := fun j => frozen_of_row w2 w.heap.size j _ 38 hS2.out.res
    go_wp2
    all_goals first | omega | skip
    have hsz := hS2.out.bel.size
    have hrl := blk_lt hS2.out.res
    obtain ⟨s1, s2⟩ := six_setT hS2.out.res (.int .i64 0) (.slice none 0 0) (.string ⟨#[]⟩) (.slice none 0 0) (.int .u32 0) (.int .i64 0)
    have hB9 := (hS2.out.bel).grown s2 (by omega) (fun j hj => by cases hj; omega)
    generalize ((((((w2.setCell ⟨w.heap.size, 0, none⟩ (.int .i64 0)).setCell ⟨w.heap.size, 1, none⟩ (.slice none 0 0)).setCell ⟨w.heap.size, 2, none⟩ (.string ⟨#[]⟩)).setCell ⟨w.heap.size, 3, none⟩ (.slice none 0 0)).setCell ⟨w.heap.size, 4, none⟩ (.int .u32 0)).setCell ⟨w.heap.size, 5, none⟩ (.int .i64 0)) = w9 at s1 s2 hB9 ⊢
    obtain ⟨k0, k1, k2, k3, k4, k5⟩ := six_read s1
    refine bodyPost_ret (by simp [results, Tryz.results85, go_sem, k0, k1, k2, k3, k4, k5]; try rfl) rfl ?_
    rw [hS2.out.err hargH.out hR1H.out]
    exact ⟨hB9, rfl⟩
   | ok x =>
    obtain ⟨hW0, hx⟩ : W = 0 /\ { itmE with kind := 6, e := y } = x := hWR.out
    subst hW0
    subst hx
    clear hse
    have hG2L : w2.heap[wr.heap.size]? = some (.cells #[.int .i64 6, .string ⟨#[]⟩, .int .i64 0, .int .i64 0, .int .i64 0, .int .i32 0, .int .i64 0, .slice vb m vd, .int .u32 y.const, .int .i64 0] 33 (0, 0)) := hG2.out
    have y0 := (cell_blockT hG2L 0).trans rfl
    have y1 := (cell_blockT hG2L 1).trans rfl
    have y2 := (cell_blockT hG2L 2).trans rfl
    have y3 := (cell_blockT hG2L 3).trans rfl
    have y4 := (cell_blockT hG2L 4).trans rfl
    have y5 := (cell_blockT hG2L 5).trans rfl
    have y6 := (cell_blockT hG2L 6).trans rfl
    have y7 := (cell_blockT hG2L 7).trans rfl
    have y8 := (cell_blockT hG2L 8).trans rfl
    have y9 := (cell_blockT hG2L 9).trans rfl
    replace hG2L := Hid.intro hG2L
    have z1 := (cell_blockT hS2.out.row 1).trans rfl
    have hsz2 := blk_lt hS2.out.row
    obtain ⟨i0, hi0, hz0, hz1, hz2⟩ := info_parts info33
    have hownH : Hid (w2.ownsRow (w.heap.size + 2) 33 10 (.slice a1 L c1) L (rowI p)) := by
     have := hS2.out.own.row
     rw [<- hS2.out.len] at this
     exact this
    go_wp2_with (at_builtin; go_must (refine wpList_append_own_wide _ rfl (.tmp 44) (.tmp 46) 35 rfl (w.heap.size + 2) 33 i0 (.agg #[.int .i64 0, .string ⟨#[]⟩, .int .i64 0, .int .i64 0, .int .i64 0, .int .i32 0, .int .i64 0, .slice none 0 0, .int .u32 0, .int .i64 0]) 10 104 Tryz.underlying35 hi0 hz0 hz1 hz2 rfl (by decide) (.slice a1 L c1) L (rowI p) rfl (hownH.out.alloc _) ⟨w2.heap.size, 0, none⟩ 1 1 [.int .i64 6, .string ⟨#[]⟩, .int .i64 0, .int .i64 0, .int .i64 0, .int .i32 0, .int .i64 0, .slice vb m vd, .int .u32 y.const, .int .i64 0] rfl rfl (cells_new _ _ _) (by simp [Value.oneCell']) (by unfold maxLen; omega) (by omega) (by simp; omega) ?_; intro v3 w3 ho3 hg3 _; obtain ⟨a3, c3, rfl⟩ := own_slice ho3; obtain ⟨hpf, hb3⟩ := hS2.out.push (below_alloc w2 _) hargH.out (q := ({ itmE with kind := 6, e := y }, Value.slice vb m vd)) hR1H.out hQ.out (by rw [rowI_push]; exact ho3) hg3; replace hpf := Hid.intro hpf; have u1 := (cell_blockT hb3 1).trans rfl; have uf := frozen_of_row w3 (w.heap.size + 1) 1 _ 38 hb3; clear hb3))
    all_goals first | omega | skip
    go_roundw
    case rel => exact ⟨i + 1, _, _, _, _, by omega, by go_num, hpf⟩
    case measure => simp [intOf]; omega
  ·have hin : i = n0 := by omega
   have hfin : Hid (R0 = .ok (p.map (·.1))) := hS.out.fin (by rw [<- hn0.out]; omega)
   subst hin
   have hlt3 : ¬ ((i : Int) < (i : Int)) := by omega
   have z0 := (cell_blockT hS.out.row 0).trans rfl
   have z1 := (cell_blockT hS.out.row 1).trans rfl
   have z2 := (cell_blockT hS.out.row 2).trans rfl
   have z3 := (cell_blockT hS.out.row 3).trans rfl
   have z4 := (cell_blockT hS.out.row 4).trans rfl
   have z5 := (cell_blockT hS.out.row 5).trans rfl
   obtain ⟨r0, r1, r2, r3, r4, r5⟩ := six_read hS.out.res
   have rf := fun j => frozen_of_row wr w.heap.size j _ 38 hS.out.res
   go_wp2
   all_goals first | omega | skip
   have hsz := hS.out.bel.size
   have hrl := blk_lt hS.out.res
   obtain ⟨s1, s2⟩ := six_setT hS.out.res (.int .i64 2) (.slice a1 L c1) (.string ⟨#[]⟩) (.slice none 0 0) (.int .u32 0) (.int .i64 0)
   have hB9 := (hS.out.bel).grown s2 (by omega) (fun j hj => by cases hj; omega)
   have hit9 := (hS.out.own.low s2 (by omega)).lies
   generalize ((((((wr.setCell ⟨w.heap.size, 0, none⟩ (.int .i64 2)).setCell ⟨w.heap.size, 1, none⟩ (.slice a1 L c1)).setCell ⟨w.heap.size, 2, none⟩ (.string ⟨#[]⟩)).setCell ⟨w.heap.size, 3, none⟩ (.slice none 0 0)).setCell ⟨w.heap.size, 4, none⟩ (.int .u32 0)).setCell ⟨w.heap.size, 5, none⟩ (.int .i64 0)) = w9 at s1 s2 hB9 hit9 ⊢
   obtain ⟨k0, k1, k2, k3, k4, k5⟩ := six_read s1
   refine bodyPost_ret (by simp [results, Tryz.results85, go_sem, k0, k1, k2, k3, k4, k5]; try rfl) rfl ?_
   rw [hfin.out]
   exact ⟨hB9, .slice a1 L c1, none, 0, 0, rfl, hit9, rfl, TmLies.nil _ _⟩
end Go.Proofs.YtlkmegchaeokgaaGreatDoor
/- The document's power. -/
namespace Go.Proofs.YtlkmegchaeokgaaGreatDoor
open Go.ChangeShapes Go.WideShapes Go.ChangeAt Go.RowKit
set_option linter.unusedVariables false
set_option maxRecDepth 100000
def pw (j : Nat) : Int := 2 ^ j
theorem power_any (n : Int) (w : World) : Calls Tryz.prog 38 #[.int .i64 n] w fun e w' => e = .returned (.bool (numOfB 3 n)) /\ w' = w := by
 go_enter Tryz.func38, Tryz.ntmps38
 go_wp2
 go_loopw [3] (fun v3 wr => ∃ j : Nat, j <= 9 /\ v3 = .int .i64 (pw j) /\ wr = w /\ Hid (∀ i, i < j -> n ≠ pw i)) (fun v3 wr => (1000 - intOf v3).toNat)
 case atStart => exact ⟨0, by omega, rfl, rfl, fun i hi => by omega⟩
 case round =>
  obtain ⟨j, hj, rfl, rfl, hne⟩ := hrel
  have : j = 0 ∨ j = 1 ∨ j = 2 ∨ j = 3 ∨ j = 4 ∨ j = 5 ∨ j = 6 ∨ j = 7 ∨ j = 8 ∨ j = 9 := by omega
  by_cases h9 : j = 9
  ·subst h9
   have hF : numOfB 3 n = false := by
    have q := hne.out
    have q0 := q 0 (by omega)
    have q1 := q 1 (by omega)
    have q2 := q 2 (by omega)
    have q3 := q 3 (by omega)
    have q4 := q 4 (by omega)
    have q5 := q 5 (by omega)
    have q6 := q 6 (by omega)
    have q7 := q 7 (by omega)
    have q8 := q 8 (by omega)
    simp [pw] at q0 q1 q2 q3 q4 q5 q6 q7 q8
    simp [numOfB]
    omega
   rw [show pw 9 = 512 from rfl]
   go_wp2
   all_goals first | omega | skip
   go_ret
   exact ⟨by first | rfl | (rw [hF]; rfl), rfl⟩
  ·obtain ⟨P, hP, hP1, hP2, hP3⟩ : ∃ P : Int, pw j = P /\ 1 <= P /\ P <= 256 /\ pw (j + 1) = 2 * P := by
    rcases this with rfl | rfl | rfl | rfl | rfl | rfl | rfl | rfl | rfl | rfl
    all_goals first | exact absurd rfl h9 | exact ⟨_, rfl, by simp [pw], by simp [pw], by simp [pw]⟩
   rw [hP]
   by_cases hn : n = P
   ·have hF : numOfB 3 n = true := by
     rcases this with rfl | rfl | rfl | rfl | rfl | rfl | rfl | rfl | rfl | rfl
     all_goals (simp [pw] at hP; simp [numOfB]; omega)
    replace hF := Hid.intro hF
    clear hP hP3 this
    go_wp2
    all_goals first | omega | skip
    go_ret
    exact ⟨by first | rfl | (rw [hF.out]; rfl), rfl⟩
   ·have hn' : (n == P) = false := by simp [hn]
    go_wp2
    all_goals first | omega | skip
    go_roundw
    case rel => exact ⟨j + 1, by omega, by rw [hP3], by first | rfl | trivial, Hid.intro (fun i hi => by rcases Nat.lt_or_ge i j with h | h; exact hne.out i h; rw [show i = j by omega, hP]; exact hn)⟩
    case measure => simp [intOf]; omega
end Go.Proofs.YtlkmegchaeokgaaGreatDoor
/- The document's directive. -/
namespace Go.Proofs.YtlkmegchaeokgaaGreatDoor
open Go.ChangeShapes Go.WideShapes Go.ChangeAt Go.RowKit
set_option linter.unusedVariables false
set_option maxRecDepth 100000
structure DrSt (w : World) (a : Option Addr) (args : List (List Tok)) (wr : World) : Prop where
 bel : Below w.heap.size w wr
 res : wr.heap[w.heap.size]? = some (.cells zero6 38 (0, 0))
 ins : RArgsIn w.heap.size wr a args
theorem DrSt.below {w : World} {a : Option Addr} {args : List (List Tok)} {wr w' : World} (h : DrSt w a args wr) (hb : Below wr.heap.size wr w') : DrSt w a args w' :=
 ⟨h.bel.trans (hb.mono h.bel.size), by rw [hb.block _ (blk_lt h.res)]; exact h.res, h.ins.below (hb.mono h.bel.size)⟩
theorem drst_new {w : World} {a : Option Addr} {args : List (List Tok)} (hA : RArgsIn w.heap.size w a args) : DrSt w a args (w.alloc (.cells zero6 38)) :=
 ⟨below_alloc w _, heap_alloc_new w _, hA.below (below_alloc w _)⟩
theorem six_end {T : TypeId} {w : World} {v0 v1 v2 v3 v4 v5 : Value} : (w.alloc (.cells #[v0, v1, v2, v3, v4, v5] T)).cell? ⟨w.heap.size, 0, none⟩ = some v0 /\ (w.alloc (.cells #[v0, v1, v2, v3, v4, v5] T)).cell? ⟨w.heap.size, 1, none⟩ = some v1 /\ (w.alloc (.cells #[v0, v1, v2, v3, v4, v5] T)).cell? ⟨w.heap.size, 2, none⟩ = some v2 /\ (w.alloc (.cells #[v0, v1, v2, v3, v4, v5] T)).cell? ⟨w.heap.size, 3, none⟩ = some v3 /\ (w.alloc (.cells #[v0, v1, v2, v3, v4, v5] T)).cell? ⟨w.heap.size, 4, none⟩ = some v4 /\ (w.alloc (.cells #[v0, v1, v2, v3, v4, v5] T)).cell? ⟨w.heap.size, 5, none⟩ = some v5 := by
 have h := heap_alloc_new w (.cells #[v0, v1, v2, v3, v4, v5] T)
 exact ⟨(cell_blockT h 0).trans rfl, (cell_blockT h 1).trans rfl, (cell_blockT h 2).trans rfl, (cell_blockT h 3).trans rfl, (cell_blockT h 4).trans rfl, (cell_blockT h 5).trans rfl⟩
theorem lie_sliceG {w : World} {vi : Value} {l : List Itm} (h : ItemsLie w vi l) : ∃ ai ni ci, vi = .slice ai ni ci := by
 rcases h with ⟨_, h⟩ | ⟨q, c, h, _⟩ <;> exact ⟨_, _, _, h⟩
theorem align_err {x0 : List Tok} {k : Int} (h : rconF x0 1 256 = .error k) : itOf 3 x0 = .error k := by
 unfold itOf numF
 rw [if_neg (by decide)]
 unfold rconF at h
 cases hc : constF x0 with
 | error e => rw [hc] at h; cases h; rfl
 | ok n =>
  rw [hc] at h
  simp only at h ⊢
  split at h
  ·cases h
  ·cases h
   rw [if_neg (by simp [numOfB]; omega)]
theorem align_ok {x0 : List Tok} {n : Int} (h : rconF x0 1 256 = .ok n) : itOf 3 x0 = if numOfB 3 n = true then .ok { itmE with kind := 3, n := n } else .error 21 := by
 unfold itOf numF
 rw [if_neg (by decide)]
 unfold rconF at h
 cases hc : constF x0 with
 | error e => rw [hc] at h; cases h
 | ok m =>
  rw [hc] at h
  simp only at h ⊢
  split at h
  ·cases h
   by_cases hb : numOfB 3 n = true
   ·rw [if_pos hb, if_pos hb]
   ·rw [if_neg hb, if_neg hb]
  ·cases h
theorem space_it (x0 : List Tok) : itOf 7 x0 = match rconF x0 0 1048576 with | .error k => .error k | .ok n => .ok { itmE with kind := 7, n := n } := by
 unfold itOf
 rw [if_neg (by decide), space_rcon]
 cases rconF x0 0 1048576 <;> rfl
theorem dfPool {S : ByteArray} (hS : str sPool = S) : (S.toList == [112, 111, 111, 108]) = true /\ (S.toList == [101, 113, 117]) = false /\ (S.toList == [98, 121, 116, 101]) = false /\ (S.toList == [119, 111, 114, 100]) = false /\ (S.toList == [97, 108, 105, 103, 110]) = false /\ (S.toList == [115, 112, 97, 99, 101]) = false /\ (S.toList == [103, 108, 111, 98, 97, 108]) = false /\ (S.toList == [115, 101, 99, 116, 105, 111, 110]) = false := by
 rw [<- hS, str_toList]
 exact ⟨rfl, rfl, rfl, rfl, rfl, rfl, rfl, rfl⟩
theorem dfEqu {S : ByteArray} (hS : str sEqu = S) : (S.toList == [112, 111, 111, 108]) = false /\ (S.toList == [101, 113, 117]) = true /\ (S.toList == [98, 121, 116, 101]) = false /\ (S.toList == [119, 111, 114, 100]) = false /\ (S.toList == [97, 108, 105, 103, 110]) = false /\ (S.toList == [115, 112, 97, 99, 101]) = false /\ (S.toList == [103, 108, 111, 98, 97, 108]) = false /\ (S.toList == [115, 101, 99, 116, 105, 111, 110]) = false := by
 rw [<- hS, str_toList]
 exact ⟨rfl, rfl, rfl, rfl, rfl, rfl, rfl, rfl⟩
theorem dfByte {S : ByteArray} (hS : str sByte = S) : (S.toList == [112, 111, 111, 108]) = false /\ (S.toList == [101, 113, 117]) = false /\ (S.toList == [98, 121, 116, 101]) = true /\ (S.toList == [119, 111, 114, 100]) = false /\ (S.toList == [97, 108, 105, 103, 110]) = false /\ (S.toList == [115, 112, 97, 99, 101]) = false /\ (S.toList == [103, 108, 111, 98, 97, 108]) = false /\ (S.toList == [115, 101, 99, 116, 105, 111, 110]) = false := by
 rw [<- hS, str_toList]
 exact ⟨rfl, rfl, rfl, rfl, rfl, rfl, rfl, rfl⟩
theorem dfWord {S : ByteArray} (hS : str sWord = S) : (S.toList == [112, 111, 111, 108]) = false /\ (S.toList == [101, 113, 117]) = false /\ (S.toList == [98, 121, 116, 101]) = false /\ (S.toList == [119, 111, 114, 100]) = true /\ (S.toList == [97, 108, 105, 103, 110]) = false /\ (S.toList == [115, 112, 97, 99, 101]) = false /\ (S.toList == [103, 108, 111, 98, 97, 108]) = false /\ (S.toList == [115, 101, 99, 116, 105, 111, 110]) = false := by
 rw [<- hS, str_toList]
 exact ⟨rfl, rfl, rfl, rfl, rfl, rfl, rfl, rfl⟩
theorem dfAlign {S : ByteArray} (hS : str sAlign = S) : (S.toList == [112, 111, 111, 108]) = false /\ (S.toList == [101, 113, 117]) = false /\ (S.toList == [98, 121, 116, 101]) = false /\ (S.toList == [119, 111, 114, 100]) = false /\ (S.toList == [97, 108, 105, 103, 110]) = true /\ (S.toList == [115, 112, 97, 99, 101]) = false /\ (S.toList == [103, 108, 111, 98, 97, 108]) = false /\ (S.toList == [115, 101, 99, 116, 105, 111, 110]) = false := by
 rw [<- hS, str_toList]
 exact ⟨rfl, rfl, rfl, rfl, rfl, rfl, rfl, rfl⟩
theorem dfSpace {S : ByteArray} (hS : str sSpace = S) : (S.toList == [112, 111, 111, 108]) = false /\ (S.toList == [101, 113, 117]) = false /\ (S.toList == [98, 121, 116, 101]) = false /\ (S.toList == [119, 111, 114, 100]) = false /\ (S.toList == [97, 108, 105, 103, 110]) = false /\ (S.toList == [115, 112, 97, 99, 101]) = true /\ (S.toList == [103, 108, 111, 98, 97, 108]) = false /\ (S.toList == [115, 101, 99, 116, 105, 111, 110]) = false := by
 rw [<- hS, str_toList]
 exact ⟨rfl, rfl, rfl, rfl, rfl, rfl, rfl, rfl⟩
theorem dfGlobal {S : ByteArray} (hS : str sGlobal = S) : (S.toList == [112, 111, 111, 108]) = false /\ (S.toList == [101, 113, 117]) = false /\ (S.toList == [98, 121, 116, 101]) = false /\ (S.toList == [119, 111, 114, 100]) = false /\ (S.toList == [97, 108, 105, 103, 110]) = false /\ (S.toList == [115, 112, 97, 99, 101]) = false /\ (S.toList == [103, 108, 111, 98, 97, 108]) = true /\ (S.toList == [115, 101, 99, 116, 105, 111, 110]) = false := by
 rw [<- hS, str_toList]
 exact ⟨rfl, rfl, rfl, rfl, rfl, rfl, rfl, rfl⟩
theorem dfSection {S : ByteArray} (hS : str sSection = S) : (S.toList == [112, 111, 111, 108]) = false /\ (S.toList == [101, 113, 117]) = false /\ (S.toList == [98, 121, 116, 101]) = false /\ (S.toList == [119, 111, 114, 100]) = false /\ (S.toList == [97, 108, 105, 103, 110]) = false /\ (S.toList == [115, 112, 97, 99, 101]) = false /\ (S.toList == [103, 108, 111, 98, 97, 108]) = false /\ (S.toList == [115, 101, 99, 116, 105, 111, 110]) = true := by
 rw [<- hS, str_toList]
 exact ⟨rfl, rfl, rfl, rfl, rfl, rfl, rfl, rfl⟩
set_option maxHeartbeats 1000000 in
theorem ddirLen_pool (a : Option Addr) (n0 c : Nat) (hne : ¬ ((n0 : Int) = 0)) (w : World) :
  Calls Tryz.prog 55 #[.string (str sPool), .slice a n0 c] w fun e w' => Below w.heap.size w w' /\ ThOut w' (.error 20) e := by
 generalize hS : str sPool = S
 obtain ⟨d0, d1, d2, d3, d4, d5, d6, d7⟩ := dfPool hS
 clear hS
 go_enter Tryz.func55, Tryz.ntmps55
 go_wp2
 all_goals first | omega | skip
 have hB := below_alloc w (.cells #[.int .i64 0, .slice none 0 0, .string ⟨#[]⟩, .slice none 0 0, .int .u32 0, .int .i64 0] 38)
 obtain ⟨k0, k1, k2, k3, k4, k5⟩ := six_end (T := 38) (w := w) (v0 := .int .i64 0) (v1 := .slice none 0 0) (v2 := .string ⟨#[]⟩) (v3 := .slice none 0 0) (v4 := .int .u32 0) (v5 := .int .i64 0)
 generalize (w.alloc (.cells #[.int .i64 0, .slice none 0 0, .string ⟨#[]⟩, .slice none 0 0, .int .u32 0, .int .i64 0] 38)) = w9 at hB k0 k1 k2 k3 k4 k5 ⊢
 refine bodyPost_ret (by simp [results, Tryz.results55, go_sem, k0, k1, k2, k3, k4, k5]; try rfl) rfl ?_
 exact ⟨hB, rfl⟩
set_option maxHeartbeats 1000000 in
theorem ddirLen_equ (a : Option Addr) (n0 c : Nat) (hne : ¬ ((n0 : Int) = 2)) (w : World) :
  Calls Tryz.prog 55 #[.string (str sEqu), .slice a n0 c] w fun e w' => Below w.heap.size w w' /\ ThOut w' (.error 20) e := by
 generalize hS : str sEqu = S
 obtain ⟨d0, d1, d2, d3, d4, d5, d6, d7⟩ := dfEqu hS
 clear hS
 go_enter Tryz.func55, Tryz.ntmps55
 go_wp2
 all_goals first | omega | skip
 have hB := below_alloc w (.cells #[.int .i64 0, .slice none 0 0, .string ⟨#[]⟩, .slice none 0 0, .int .u32 0, .int .i64 0] 38)
 obtain ⟨k0, k1, k2, k3, k4, k5⟩ := six_end (T := 38) (w := w) (v0 := .int .i64 0) (v1 := .slice none 0 0) (v2 := .string ⟨#[]⟩) (v3 := .slice none 0 0) (v4 := .int .u32 0) (v5 := .int .i64 0)
 generalize (w.alloc (.cells #[.int .i64 0, .slice none 0 0, .string ⟨#[]⟩, .slice none 0 0, .int .u32 0, .int .i64 0] 38)) = w9 at hB k0 k1 k2 k3 k4 k5 ⊢
 refine bodyPost_ret (by simp [results, Tryz.results55, go_sem, k0, k1, k2, k3, k4, k5]; try rfl) rfl ?_
 exact ⟨hB, rfl⟩
set_option maxHeartbeats 1000000 in
theorem ddirLen_byte (a : Option Addr) (c : Nat) (w : World) :
  Calls Tryz.prog 55 #[.string (str sByte), .slice a 0 c] w fun e w' => Below w.heap.size w w' /\ ThOut w' (.error 20) e := by
 generalize hS : str sByte = S
 obtain ⟨d0, d1, d2, d3, d4, d5, d6, d7⟩ := dfByte hS
 clear hS
 go_enter Tryz.func55, Tryz.ntmps55
 go_wp2
 all_goals first | omega | skip
 have hB := below_alloc w (.cells #[.int .i64 0, .slice none 0 0, .string ⟨#[]⟩, .slice none 0 0, .int .u32 0, .int .i64 0] 38)
 obtain ⟨k0, k1, k2, k3, k4, k5⟩ := six_end (T := 38) (w := w) (v0 := .int .i64 0) (v1 := .slice none 0 0) (v2 := .string ⟨#[]⟩) (v3 := .slice none 0 0) (v4 := .int .u32 0) (v5 := .int .i64 0)
 generalize (w.alloc (.cells #[.int .i64 0, .slice none 0 0, .string ⟨#[]⟩, .slice none 0 0, .int .u32 0, .int .i64 0] 38)) = w9 at hB k0 k1 k2 k3 k4 k5 ⊢
 refine bodyPost_ret (by simp [results, Tryz.results55, go_sem, k0, k1, k2, k3, k4, k5]; try rfl) rfl ?_
 exact ⟨hB, rfl⟩
set_option maxHeartbeats 1000000 in
theorem ddirLen_word (a : Option Addr) (c : Nat) (w : World) :
  Calls Tryz.prog 55 #[.string (str sWord), .slice a 0 c] w fun e w' => Below w.heap.size w w' /\ ThOut w' (.error 20) e := by
 generalize hS : str sWord = S
 obtain ⟨d0, d1, d2, d3, d4, d5, d6, d7⟩ := dfWord hS
 clear hS
 go_enter Tryz.func55, Tryz.ntmps55
 go_wp2
 all_goals first | omega | skip
 have hB := below_alloc w (.cells #[.int .i64 0, .slice none 0 0, .string ⟨#[]⟩, .slice none 0 0, .int .u32 0, .int .i64 0] 38)
 obtain ⟨k0, k1, k2, k3, k4, k5⟩ := six_end (T := 38) (w := w) (v0 := .int .i64 0) (v1 := .slice none 0 0) (v2 := .string ⟨#[]⟩) (v3 := .slice none 0 0) (v4 := .int .u32 0) (v5 := .int .i64 0)
 generalize (w.alloc (.cells #[.int .i64 0, .slice none 0 0, .string ⟨#[]⟩, .slice none 0 0, .int .u32 0, .int .i64 0] 38)) = w9 at hB k0 k1 k2 k3 k4 k5 ⊢
 refine bodyPost_ret (by simp [results, Tryz.results55, go_sem, k0, k1, k2, k3, k4, k5]; try rfl) rfl ?_
 exact ⟨hB, rfl⟩
set_option maxHeartbeats 1000000 in
theorem ddirLen_align (a : Option Addr) (n0 c : Nat) (hne : ¬ ((n0 : Int) = 1)) (w : World) :
  Calls Tryz.prog 55 #[.string (str sAlign), .slice a n0 c] w fun e w' => Below w.heap.size w w' /\ ThOut w' (.error 20) e := by
 generalize hS : str sAlign = S
 obtain ⟨d0, d1, d2, d3, d4, d5, d6, d7⟩ := dfAlign hS
 clear hS
 go_enter Tryz.func55, Tryz.ntmps55
 go_wp2
 all_goals first | omega | skip
 have hB := below_alloc w (.cells #[.int .i64 0, .slice none 0 0, .string ⟨#[]⟩, .slice none 0 0, .int .u32 0, .int .i64 0] 38)
 obtain ⟨k0, k1, k2, k3, k4, k5⟩ := six_end (T := 38) (w := w) (v0 := .int .i64 0) (v1 := .slice none 0 0) (v2 := .string ⟨#[]⟩) (v3 := .slice none 0 0) (v4 := .int .u32 0) (v5 := .int .i64 0)
 generalize (w.alloc (.cells #[.int .i64 0, .slice none 0 0, .string ⟨#[]⟩, .slice none 0 0, .int .u32 0, .int .i64 0] 38)) = w9 at hB k0 k1 k2 k3 k4 k5 ⊢
 refine bodyPost_ret (by simp [results, Tryz.results55, go_sem, k0, k1, k2, k3, k4, k5]; try rfl) rfl ?_
 exact ⟨hB, rfl⟩
set_option maxHeartbeats 1000000 in
theorem ddirLen_space (a : Option Addr) (n0 c : Nat) (hne : ¬ ((n0 : Int) = 1)) (w : World) :
  Calls Tryz.prog 55 #[.string (str sSpace), .slice a n0 c] w fun e w' => Below w.heap.size w w' /\ ThOut w' (.error 20) e := by
 generalize hS : str sSpace = S
 obtain ⟨d0, d1, d2, d3, d4, d5, d6, d7⟩ := dfSpace hS
 clear hS
 go_enter Tryz.func55, Tryz.ntmps55
 go_wp2
 all_goals first | omega | skip
 have hB := below_alloc w (.cells #[.int .i64 0, .slice none 0 0, .string ⟨#[]⟩, .slice none 0 0, .int .u32 0, .int .i64 0] 38)
 obtain ⟨k0, k1, k2, k3, k4, k5⟩ := six_end (T := 38) (w := w) (v0 := .int .i64 0) (v1 := .slice none 0 0) (v2 := .string ⟨#[]⟩) (v3 := .slice none 0 0) (v4 := .int .u32 0) (v5 := .int .i64 0)
 generalize (w.alloc (.cells #[.int .i64 0, .slice none 0 0, .string ⟨#[]⟩, .slice none 0 0, .int .u32 0, .int .i64 0] 38)) = w9 at hB k0 k1 k2 k3 k4 k5 ⊢
 refine bodyPost_ret (by simp [results, Tryz.results55, go_sem, k0, k1, k2, k3, k4, k5]; try rfl) rfl ?_
 exact ⟨hB, rfl⟩
set_option maxHeartbeats 1000000 in
theorem ddirLen_global (a : Option Addr) (n0 c : Nat) (hne : ¬ ((n0 : Int) = 1)) (w : World) :
  Calls Tryz.prog 55 #[.string (str sGlobal), .slice a n0 c] w fun e w' => Below w.heap.size w w' /\ ThOut w' (.error 20) e := by
 generalize hS : str sGlobal = S
 obtain ⟨d0, d1, d2, d3, d4, d5, d6, d7⟩ := dfGlobal hS
 clear hS
 go_enter Tryz.func55, Tryz.ntmps55
 go_wp2
 all_goals first | omega | skip
 have hB := below_alloc w (.cells #[.int .i64 0, .slice none 0 0, .string ⟨#[]⟩, .slice none 0 0, .int .u32 0, .int .i64 0] 38)
 obtain ⟨k0, k1, k2, k3, k4, k5⟩ := six_end (T := 38) (w := w) (v0 := .int .i64 0) (v1 := .slice none 0 0) (v2 := .string ⟨#[]⟩) (v3 := .slice none 0 0) (v4 := .int .u32 0) (v5 := .int .i64 0)
 generalize (w.alloc (.cells #[.int .i64 0, .slice none 0 0, .string ⟨#[]⟩, .slice none 0 0, .int .u32 0, .int .i64 0] 38)) = w9 at hB k0 k1 k2 k3 k4 k5 ⊢
 refine bodyPost_ret (by simp [results, Tryz.results55, go_sem, k0, k1, k2, k3, k4, k5]; try rfl) rfl ?_
 exact ⟨hB, rfl⟩
set_option maxHeartbeats 1000000 in
theorem ddirLen_section (a : Option Addr) (n0 c : Nat) (hne : ¬ ((n0 : Int) = 1)) (w : World) :
  Calls Tryz.prog 55 #[.string (str sSection), .slice a n0 c] w fun e w' => Below w.heap.size w w' /\ ThOut w' (.error 20) e := by
 generalize hS : str sSection = S
 obtain ⟨d0, d1, d2, d3, d4, d5, d6, d7⟩ := dfSection hS
 clear hS
 go_enter Tryz.func55, Tryz.ntmps55
 go_wp2
 all_goals first | omega | skip
 have hB := below_alloc w (.cells #[.int .i64 0, .slice none 0 0, .string ⟨#[]⟩, .slice none 0 0, .int .u32 0, .int .i64 0] 38)
 obtain ⟨k0, k1, k2, k3, k4, k5⟩ := six_end (T := 38) (w := w) (v0 := .int .i64 0) (v1 := .slice none 0 0) (v2 := .string ⟨#[]⟩) (v3 := .slice none 0 0) (v4 := .int .u32 0) (v5 := .int .i64 0)
 generalize (w.alloc (.cells #[.int .i64 0, .slice none 0 0, .string ⟨#[]⟩, .slice none 0 0, .int .u32 0, .int .i64 0] 38)) = w9 at hB k0 k1 k2 k3 k4 k5 ⊢
 refine bodyPost_ret (by simp [results, Tryz.results55, go_sem, k0, k1, k2, k3, k4, k5]; try rfl) rfl ?_
 exact ⟨hB, rfl⟩
set_option maxHeartbeats 1000000 in
theorem ddir_none (s : List UInt8) (hd : s ∉ dirs) (a : Option Addr) (n0 c : Nat) (w : World) :
  Calls Tryz.prog 55 #[.string (str s), .slice a n0 c] w fun e w' => Below w.heap.size w w' /\ ThOut w' (.error 20) e := by
 obtain ⟨d1, d2, d3, d4, d5, d6, d7, d8⟩ := dirs_ne hd
 generalize str s = S at d1 d2 d3 d4 d5 d6 d7 d8 ⊢
 have hne : ¬ ((n0 : Int) = -1) := by omega
 go_enter Tryz.func55, Tryz.ntmps55
 go_wp2
 all_goals first | omega | skip
 have hB := below_alloc w (.cells #[.int .i64 0, .slice none 0 0, .string ⟨#[]⟩, .slice none 0 0, .int .u32 0, .int .i64 0] 38)
 obtain ⟨k0, k1, k2, k3, k4, k5⟩ := six_end (T := 38) (w := w) (v0 := .int .i64 0) (v1 := .slice none 0 0) (v2 := .string ⟨#[]⟩) (v3 := .slice none 0 0) (v4 := .int .u32 0) (v5 := .int .i64 0)
 generalize (w.alloc (.cells #[.int .i64 0, .slice none 0 0, .string ⟨#[]⟩, .slice none 0 0, .int .u32 0, .int .i64 0] 38)) = w9 at hB k0 k1 k2 k3 k4 k5 ⊢
 refine bodyPost_ret (by simp [results, Tryz.results55, go_sem, k0, k1, k2, k3, k4, k5]; try rfl) rfl ?_
 exact ⟨hB, rfl⟩
set_option maxHeartbeats 1000000 in
theorem ddir_pool (a : Option Addr) (c : Nat) (w : World) :
  Calls Tryz.prog 55 #[.string (str sPool), .slice a 0 c] w fun e w' => Below w.heap.size w w' /\ ThOut w' (.ok ⟨1, [{ itmE with kind := 4 }], [], linE, 0⟩) e := by
 generalize hS : str sPool = S
 obtain ⟨d0, d1, d2, d3, d4, d5, d6, d7⟩ := dfPool hS
 clear hS
 go_enter Tryz.func55, Tryz.ntmps55
 go_wp2
 all_goals first | omega | skip
 have hB : Below w.heap.size w ((w.alloc (.cells #[.int .i64 1, .slice (some ⟨w.heap.size + 1, 0, none⟩) 1 1, .string ⟨#[]⟩, .slice none 0 0, .int .u32 0, .int .i64 0] 38)).alloc (.cells #[.int .i64 4, .string ⟨#[]⟩, .int .i64 0, .int .i64 0, .int .i64 0, .int .i32 0, .int .i64 0, .slice none 0 0, .int .u32 0, .int .i64 0] 33)) := (below_alloc w _).alloc (by simp) _
 have hs1 : (w.alloc (.cells #[.int .i64 1, .slice (some ⟨w.heap.size + 1, 0, none⟩) 1 1, .string ⟨#[]⟩, .slice none 0 0, .int .u32 0, .int .i64 0] 38)).heap.size = w.heap.size + 1 := by simp
 have hq := heap_alloc_new (w.alloc (.cells #[.int .i64 1, .slice (some ⟨w.heap.size + 1, 0, none⟩) 1 1, .string ⟨#[]⟩, .slice none 0 0, .int .u32 0, .int .i64 0] 38)) (.cells #[.int .i64 4, .string ⟨#[]⟩, .int .i64 0, .int .i64 0, .int .i64 0, .int .i32 0, .int .i64 0, .slice none 0 0, .int .u32 0, .int .i64 0] 33)
 rw [hs1] at hq
 have s1 : ((w.alloc (.cells #[.int .i64 1, .slice (some ⟨w.heap.size + 1, 0, none⟩) 1 1, .string ⟨#[]⟩, .slice none 0 0, .int .u32 0, .int .i64 0] 38)).alloc (.cells #[.int .i64 4, .string ⟨#[]⟩, .int .i64 0, .int .i64 0, .int .i64 0, .int .i32 0, .int .i64 0, .slice none 0 0, .int .u32 0, .int .i64 0] 33)).heap[w.heap.size]? = some (.cells #[.int .i64 1, .slice (some ⟨w.heap.size + 1, 0, none⟩) 1 1, .string ⟨#[]⟩, .slice none 0 0, .int .u32 0, .int .i64 0] 38 (0, 0)) := by
  rw [Below.heap_alloc _ _ _ (by omega)]
  exact heap_alloc_new w _
 generalize ((w.alloc (.cells #[.int .i64 1, .slice (some ⟨w.heap.size + 1, 0, none⟩) 1 1, .string ⟨#[]⟩, .slice none 0 0, .int .u32 0, .int .i64 0] 38)).alloc (.cells #[.int .i64 4, .string ⟨#[]⟩, .int .i64 0, .int .i64 0, .int .i64 0, .int .i32 0, .int .i64 0, .slice none 0 0, .int .u32 0, .int .i64 0] 33)) = w9 at hB hq s1 ⊢
 obtain ⟨k0, k1, k2, k3, k4, k5⟩ := six_read s1
 refine bodyPost_ret (by simp [results, Tryz.results55, go_sem, k0, k1, k2, k3, k4, k5]; try rfl) rfl ?_
 exact ⟨hB, _, none, 0, 0, rfl, lie_one (x := { itmE with kind := 4 }) (va := none) (n := 0) (vc := 0) hq rfl (TmLies.nil _ _), rfl, TmLies.nil _ _⟩
def andOne (R : Except Int Itm) : Except Int Thg := match R with | .error k => .error k | .ok x => .ok ⟨1, [x], [], linE, 0⟩
set_option maxHeartbeats 1000000 in
theorem ddir_align (a : Option Addr) (c : Nat) (x0 : List Tok) (w : World) (hA : RArgsIn w.heap.size w a [x0]) :
  Calls Tryz.prog 55 #[.string (str sAlign), .slice a 1 c] w fun e w' => Below w.heap.size w w' /\ ThOut w' (andOne (itOf 3 x0)) e := by
 generalize hS : str sAlign = S
 obtain ⟨d0, d1, d2, d3, d4, d5, d6, d7⟩ := dfAlign hS
 clear hS
 have hA0 := drst_new hA
 obtain ⟨G, hG⟩ : ∃ G, a = some ⟨G, 0, none⟩ := by
  rcases hA.outer with h | ⟨G, h, _⟩
  ·cases h
  ·exact ⟨G, h⟩
 subst hG
 obtain ⟨a', c', hcell, Nn, W, hCW, hone⟩ := conR [x0] G 0 x0 1 256 (w.alloc (.cells zero6 38)) _ rfl hA0.ins
 obtain ⟨R0, hR0⟩ : ∃ R0, andOne (itOf 3 x0) = R0 := ⟨_, rfl⟩
 rw [hR0]
 replace hR0 := Hid.intro hR0
 generalize x0.length = ln at hcell hone
 replace hone := Hid.intro hone
 replace hA0 := Hid.intro hA0
 clear hA
 go_enter Tryz.func55, Tryz.ntmps55
 go_upto_region 24 with (go_at_call 83; (with_reducible refine (hone.out).mono ?_); rintro e w1 ⟨rfl, hb1⟩)
 all_goals first | omega | skip
 have hS1 := Hid.intro (hA0.out.below hb1)
 clear hcell hone hA0 hb1
 cases h2 : rconF x0 1 256 with
 | error k2 =>
  rw [h2] at hCW
  obtain rfl : W = k2 := hCW
  have hk2 : (W == 0) = false := by rcases rcon_err h2 with rfl | rfl <;> rfl
  have hO : Hid (R0 = .error W) := by show R0 = .error W; rw [<- hR0.out, align_err h2]; rfl
  obtain ⟨r0, r1, r2, r3, r4, r5⟩ := six_read hS1.out.res
  have rf := fun j => frozen_of_row w1 w.heap.size j _ 38 hS1.out.res
  go_wp2
  all_goals first | omega | skip
  have hsz := hS1.out.bel.size
  obtain ⟨s1, s2⟩ := six_setT hS1.out.res (.int .i64 0) (.slice none 0 0) (.string ⟨#[]⟩) (.slice none 0 0) (.int .u32 0) (.int .i64 0)
  have hB9 := (hS1.out.bel).grown s2 (by omega) (fun j hj => by cases hj; omega)
  generalize ((((((w1.setCell ⟨w.heap.size, 0, none⟩ (.int .i64 0)).setCell ⟨w.heap.size, 1, none⟩ (.slice none 0 0)).setCell ⟨w.heap.size, 2, none⟩ (.string ⟨#[]⟩)).setCell ⟨w.heap.size, 3, none⟩ (.slice none 0 0)).setCell ⟨w.heap.size, 4, none⟩ (.int .u32 0)).setCell ⟨w.heap.size, 5, none⟩ (.int .i64 0)) = w9 at s1 s2 hB9 ⊢
  obtain ⟨k0, k1, k2, k3, k4, k5⟩ := six_read s1
  refine bodyPost_ret (by simp [results, Tryz.results55, go_sem, k0, k1, k2, k3, k4, k5]; try rfl) rfl ?_
  rw [hO.out]
  exact ⟨hB9, rfl⟩
 | ok r2 =>
  rw [h2] at hCW
  obtain ⟨rfl, rfl⟩ := hCW
  have hpw := Hid.intro (fun w1 => power_any Nn w1)
  have hal := align_ok h2
  cases hnb : numOfB 3 Nn
  ·rw [hnb] at hpw hal
   have hO : Hid (R0 = .error 21) := by show R0 = .error 21; rw [<- hR0.out, hal]; rfl
   clear hal hnb
   obtain ⟨r0, r1, r2, r3, r4, r5⟩ := six_read hS1.out.res
   have rf := fun j => frozen_of_row w1 w.heap.size j _ 38 hS1.out.res
   go_wp2_with (go_at_call 38; (with_reducible refine (hpw.out _).mono ?_); rintro e w2 ⟨rfl, hw2⟩; obtain rfl : w1 = w2 := hw2.symm)
   all_goals first | omega | skip
   have hsz := hS1.out.bel.size
   obtain ⟨s1, s2⟩ := six_setT hS1.out.res (.int .i64 0) (.slice none 0 0) (.string ⟨#[]⟩) (.slice none 0 0) (.int .u32 0) (.int .i64 0)
   have hB9 := (hS1.out.bel).grown s2 (by omega) (fun j hj => by cases hj; omega)
   generalize ((((((w1.setCell ⟨w.heap.size, 0, none⟩ (.int .i64 0)).setCell ⟨w.heap.size, 1, none⟩ (.slice none 0 0)).setCell ⟨w.heap.size, 2, none⟩ (.string ⟨#[]⟩)).setCell ⟨w.heap.size, 3, none⟩ (.slice none 0 0)).setCell ⟨w.heap.size, 4, none⟩ (.int .u32 0)).setCell ⟨w.heap.size, 5, none⟩ (.int .i64 0)) = w9 at s1 s2 hB9 ⊢
   obtain ⟨k0, k1, k2, k3, k4, k5⟩ := six_read s1
   refine bodyPost_ret (by simp [results, Tryz.results55, go_sem, k0, k1, k2, k3, k4, k5]; try rfl) rfl ?_
   rw [hO.out]
   exact ⟨hB9, rfl⟩
  ·rw [hnb] at hpw hal
   have hO : Hid (R0 = .ok ⟨1, [{ itmE with kind := 3, n := Nn }], [], linE, 0⟩) := by show R0 = _; rw [<- hR0.out, hal]; rfl
   clear hal hnb
   have hal := Hid.intro (fun o => hS1.out.below (below_alloc w1 o))
   have r0 := fun o => (cell_blockT (hal.out o).res 0).trans rfl
   have r1 := fun o => (cell_blockT (hal.out o).res 1).trans rfl
   have r2 := fun o => (cell_blockT (hal.out o).res 2).trans rfl
   have r3 := fun o => (cell_blockT (hal.out o).res 3).trans rfl
   have r4 := fun o => (cell_blockT (hal.out o).res 4).trans rfl
   have r5 := fun o => (cell_blockT (hal.out o).res 5).trans rfl
   have rf := fun o j => frozen_of_row (w1.alloc o) w.heap.size j _ 38 (hal.out o).res
   go_wp2_with (go_at_call 38; (with_reducible refine (hpw.out _).mono ?_); rintro e w2 ⟨rfl, hw2⟩; obtain rfl : w1 = w2 := hw2.symm)
   all_goals first | omega | skip
   have hal2 := hal.out (.cells #[.int .i64 3, .string ⟨#[]⟩, .int .i64 0, .int .i64 0, .int .i64 0, .int .i32 0, .int .i64 0, .slice none 0 0, .int .u32 0, .int .i64 Nn] 33)
   have hsz := hal2.bel.size
   have hit2 : ItemsLie (w1.alloc (.cells #[.int .i64 3, .string ⟨#[]⟩, .int .i64 0, .int .i64 0, .int .i64 0, .int .i32 0, .int .i64 0, .slice none 0 0, .int .u32 0, .int .i64 Nn] 33)) (.slice (some ⟨w1.heap.size, 0, none⟩) 1 1) [{ itmE with kind := 3, n := Nn }] := lie_one (va := none) (n := 0) (vc := 0) (heap_alloc_new w1 _) rfl (TmLies.nil _ _)
   obtain ⟨s1, s2⟩ := six_setT hal2.res (.int .i64 1) (.slice (some ⟨w1.heap.size, 0, none⟩) 1 1) (.string ⟨#[]⟩) (.slice none 0 0) (.int .u32 0) (.int .i64 0)
   have hit9 := items_resT hit2 hal2.res s2
   have hB9 := (hal2.bel).grown s2 (by omega) (fun j hj => by cases hj; omega)
   generalize (((((((w1.alloc (.cells #[.int .i64 3, .string ⟨#[]⟩, .int .i64 0, .int .i64 0, .int .i64 0, .int .i32 0, .int .i64 0, .slice none 0 0, .int .u32 0, .int .i64 Nn] 33)).setCell ⟨w.heap.size, 0, none⟩ (.int .i64 1)).setCell ⟨w.heap.size, 1, none⟩ (.slice (some ⟨w1.heap.size, 0, none⟩) 1 1)).setCell ⟨w.heap.size, 2, none⟩ (.string ⟨#[]⟩)).setCell ⟨w.heap.size, 3, none⟩ (.slice none 0 0)).setCell ⟨w.heap.size, 4, none⟩ (.int .u32 0)).setCell ⟨w.heap.size, 5, none⟩ (.int .i64 0)) = w9 at s1 s2 hB9 hit9 ⊢
   obtain ⟨k0, k1, k2, k3, k4, k5⟩ := six_read s1
   refine bodyPost_ret (by simp [results, Tryz.results55, go_sem, k0, k1, k2, k3, k4, k5]; try rfl) rfl ?_
   rw [hO.out]
   exact ⟨hB9, _, none, 0, 0, rfl, hit9, rfl, TmLies.nil _ _⟩
set_option maxHeartbeats 1000000 in
theorem ddir_space (a : Option Addr) (c : Nat) (x0 : List Tok) (w : World) (hA : RArgsIn w.heap.size w a [x0]) :
  Calls Tryz.prog 55 #[.string (str sSpace), .slice a 1 c] w fun e w' => Below w.heap.size w w' /\ ThOut w' (andOne (itOf 7 x0)) e := by
 generalize hS : str sSpace = S
 obtain ⟨d0, d1, d2, d3, d4, d5, d6, d7⟩ := dfSpace hS
 clear hS
 have hA0 := drst_new hA
 obtain ⟨G, hG⟩ : ∃ G, a = some ⟨G, 0, none⟩ := by
  rcases hA.outer with h | ⟨G, h, _⟩
  ·cases h
  ·exact ⟨G, h⟩
 subst hG
 obtain ⟨a', c', hcell, Nn, W, hCW, hone⟩ := conR [x0] G 0 x0 0 1048576 (w.alloc (.cells zero6 38)) _ rfl hA0.ins
 obtain ⟨R0, hR0⟩ : ∃ R0, andOne (itOf 7 x0) = R0 := ⟨_, rfl⟩
 rw [hR0]
 rw [space_it] at hR0
 replace hR0 := Hid.intro hR0
 generalize x0.length = ln at hcell hone
 replace hone := Hid.intro hone
 replace hA0 := Hid.intro hA0
 clear hA
 go_enter Tryz.func55, Tryz.ntmps55
 go_upto_region 31 with (go_at_call 83; (with_reducible refine (hone.out).mono ?_); rintro e w1 ⟨rfl, hb1⟩)
 all_goals first | omega | skip
 have hS1 := Hid.intro (hA0.out.below hb1)
 clear hcell hone hA0 hb1
 cases h2 : rconF x0 0 1048576 with
 | error k2 =>
  rw [h2] at hCW
  obtain rfl : W = k2 := hCW
  have hk2 : (W == 0) = false := by rcases rcon_err h2 with rfl | rfl <;> rfl
  have hO : Hid (R0 = .error W) := by show R0 = .error W; rw [<- hR0.out, h2]; rfl
  obtain ⟨r0, r1, r2, r3, r4, r5⟩ := six_read hS1.out.res
  have rf := fun j => frozen_of_row w1 w.heap.size j _ 38 hS1.out.res
  go_wp2
  all_goals first | omega | skip
  have hsz := hS1.out.bel.size
  obtain ⟨s1, s2⟩ := six_setT hS1.out.res (.int .i64 0) (.slice none 0 0) (.string ⟨#[]⟩) (.slice none 0 0) (.int .u32 0) (.int .i64 0)
  have hB9 := (hS1.out.bel).grown s2 (by omega) (fun j hj => by cases hj; omega)
  generalize ((((((w1.setCell ⟨w.heap.size, 0, none⟩ (.int .i64 0)).setCell ⟨w.heap.size, 1, none⟩ (.slice none 0 0)).setCell ⟨w.heap.size, 2, none⟩ (.string ⟨#[]⟩)).setCell ⟨w.heap.size, 3, none⟩ (.slice none 0 0)).setCell ⟨w.heap.size, 4, none⟩ (.int .u32 0)).setCell ⟨w.heap.size, 5, none⟩ (.int .i64 0)) = w9 at s1 s2 hB9 ⊢
  obtain ⟨k0, k1, k2, k3, k4, k5⟩ := six_read s1
  refine bodyPost_ret (by simp [results, Tryz.results55, go_sem, k0, k1, k2, k3, k4, k5]; try rfl) rfl ?_
  rw [hO.out]
  exact ⟨hB9, rfl⟩
 | ok r2 =>
  rw [h2] at hCW
  obtain ⟨rfl, rfl⟩ := hCW
  have hO : Hid (R0 = .ok ⟨1, [{ itmE with kind := 7, n := Nn }], [], linE, 0⟩) := by show R0 = _; rw [<- hR0.out, h2]; rfl
  have hal := Hid.intro (fun o => hS1.out.below (below_alloc w1 o))
  have r0 := fun o => (cell_blockT (hal.out o).res 0).trans rfl
  have r1 := fun o => (cell_blockT (hal.out o).res 1).trans rfl
  have r2 := fun o => (cell_blockT (hal.out o).res 2).trans rfl
  have r3 := fun o => (cell_blockT (hal.out o).res 3).trans rfl
  have r4 := fun o => (cell_blockT (hal.out o).res 4).trans rfl
  have r5 := fun o => (cell_blockT (hal.out o).res 5).trans rfl
  have rf := fun o j => frozen_of_row (w1.alloc o) w.heap.size j _ 38 (hal.out o).res
  go_wp2
  all_goals first | omega | skip
  have hal2 := hal.out (.cells #[.int .i64 7, .string ⟨#[]⟩, .int .i64 0, .int .i64 0, .int .i64 0, .int .i32 0, .int .i64 0, .slice none 0 0, .int .u32 0, .int .i64 Nn] 33)
  have hsz := hal2.bel.size
  have hit2 : ItemsLie (w1.alloc (.cells #[.int .i64 7, .string ⟨#[]⟩, .int .i64 0, .int .i64 0, .int .i64 0, .int .i32 0, .int .i64 0, .slice none 0 0, .int .u32 0, .int .i64 Nn] 33)) (.slice (some ⟨w1.heap.size, 0, none⟩) 1 1) [{ itmE with kind := 7, n := Nn }] := lie_one (va := none) (n := 0) (vc := 0) (heap_alloc_new w1 _) rfl (TmLies.nil _ _)
  obtain ⟨s1, s2⟩ := six_setT hal2.res (.int .i64 1) (.slice (some ⟨w1.heap.size, 0, none⟩) 1 1) (.string ⟨#[]⟩) (.slice none 0 0) (.int .u32 0) (.int .i64 0)
  have hit9 := items_resT hit2 hal2.res s2
  have hB9 := (hal2.bel).grown s2 (by omega) (fun j hj => by cases hj; omega)
  generalize (((((((w1.alloc (.cells #[.int .i64 7, .string ⟨#[]⟩, .int .i64 0, .int .i64 0, .int .i64 0, .int .i32 0, .int .i64 0, .slice none 0 0, .int .u32 0, .int .i64 Nn] 33)).setCell ⟨w.heap.size, 0, none⟩ (.int .i64 1)).setCell ⟨w.heap.size, 1, none⟩ (.slice (some ⟨w1.heap.size, 0, none⟩) 1 1)).setCell ⟨w.heap.size, 2, none⟩ (.string ⟨#[]⟩)).setCell ⟨w.heap.size, 3, none⟩ (.slice none 0 0)).setCell ⟨w.heap.size, 4, none⟩ (.int .u32 0)).setCell ⟨w.heap.size, 5, none⟩ (.int .i64 0)) = w9 at s1 s2 hB9 hit9 ⊢
  obtain ⟨k0, k1, k2, k3, k4, k5⟩ := six_read s1
  refine bodyPost_ret (by simp [results, Tryz.results55, go_sem, k0, k1, k2, k3, k4, k5]; try rfl) rfl ?_
  rw [hO.out]
  exact ⟨hB9, _, none, 0, 0, rfl, hit9, rfl, TmLies.nil _ _⟩
set_option maxHeartbeats 1000000 in
theorem ddir_byte (a : Option Addr) (c : Nat) (args : List (List Tok)) (hm : args.length <= 1100000) (h0 : args.length ≠ 0) (w : World) (hA : RArgsIn w.heap.size w a args) :
  Calls Tryz.prog 55 #[.string (str sByte), .slice a args.length c] w fun e w' => Below w.heap.size w w' /\ ThOut w' (dsevR (itsF 5 args)) e := by
 have hA0 := drst_new hA
 have hone := dsev_5 a c args hm (w.alloc (.cells zero6 38)) (rargs_mono hA0.ins hA0.bel.size (Nat.le_refl _))
 generalize itsF 5 args = RR at hone ⊢
 generalize args.length = n0 at hm h0 hone ⊢
 generalize hS : str sByte = S at hone ⊢
 obtain ⟨d0, d1, d2, d3, d4, d5, d6, d7⟩ := dfByte hS
 clear hS hA
 have hn0 : ¬ ((n0 : Int) = 0) := by omega
 cases RR with
 | error k =>
  rw [show dsevR (.error k) = .error k from rfl] at hone ⊢
  replace hone := Hid.intro hone
  replace hA0 := Hid.intro hA0
  go_enter Tryz.func55, Tryz.ntmps55
  go_wp2_with (go_at_call 85; (with_reducible refine (hone.out).mono ?_); rintro e w1 ⟨hb1, rfl⟩; have hS1 := Hid.intro (hA0.out.below hb1); have r0 := (cell_blockT hS1.out.res 0).trans rfl; have r1 := (cell_blockT hS1.out.res 1).trans rfl; have r2 := (cell_blockT hS1.out.res 2).trans rfl; have r3 := (cell_blockT hS1.out.res 3).trans rfl; have r4 := (cell_blockT hS1.out.res 4).trans rfl; have r5 := (cell_blockT hS1.out.res 5).trans rfl; have rf := fun j => frozen_of_row w1 w.heap.size j _ 38 hS1.out.res)
  all_goals first | omega | skip
  have hsz := hS1.out.bel.size
  obtain ⟨s1, s2⟩ := six_setT hS1.out.res (.int .i64 0) (.slice none 0 0) (.string (str [])) (.slice none 0 0) (.int .u32 0) (.int .i64 0)
  have hB9 := (hS1.out.bel).grown s2 (by omega) (fun j hj => by cases hj; omega)
  generalize ((((((w1.setCell ⟨w.heap.size, 0, none⟩ (.int .i64 0)).setCell ⟨w.heap.size, 1, none⟩ (.slice none 0 0)).setCell ⟨w.heap.size, 2, none⟩ (.string (str []))).setCell ⟨w.heap.size, 3, none⟩ (.slice none 0 0)).setCell ⟨w.heap.size, 4, none⟩ (.int .u32 0)).setCell ⟨w.heap.size, 5, none⟩ (.int .i64 0)) = w9 at s1 s2 hB9 ⊢
  obtain ⟨k0, k1, k2, k3, k4, k5⟩ := six_read s1
  refine bodyPost_ret (by simp [results, Tryz.results55, go_sem, k0, k1, k2, k3, k4, k5]; try rfl) rfl ?_
  exact ⟨hB9, rfl⟩
 | ok l =>
  rw [show dsevR (.ok l) = .ok ⟨2, l, [], linE, 0⟩ from rfl] at hone ⊢
  replace hone := Hid.intro hone
  replace hA0 := Hid.intro hA0
  go_enter Tryz.func55, Tryz.ntmps55
  go_wp2_with (go_at_call 85; (with_reducible refine (hone.out).mono ?_); rintro e w1 ⟨hb1, vi, va, n, vc, rfl, hit, hn, htm⟩; have hS1 := Hid.intro (hA0.out.below hb1); replace hit := Hid.intro hit; replace hn := Hid.intro hn; obtain ⟨ai, ni, ci, rfl⟩ := lie_sliceG hit.out; have r0 := (cell_blockT hS1.out.res 0).trans rfl; have r1 := (cell_blockT hS1.out.res 1).trans rfl; have r2 := (cell_blockT hS1.out.res 2).trans rfl; have r3 := (cell_blockT hS1.out.res 3).trans rfl; have r4 := (cell_blockT hS1.out.res 4).trans rfl; have r5 := (cell_blockT hS1.out.res 5).trans rfl; have rf := fun j => frozen_of_row w1 w.heap.size j _ 38 hS1.out.res)
  all_goals first | omega | skip
  have hsz := hS1.out.bel.size
  obtain ⟨s1, s2⟩ := six_setT hS1.out.res (.int .i64 2) (.slice ai ni ci) (.string (str [])) (.slice va n vc) (.int .u32 linE.const) (.int .i64 0)
  have hit9 := items_resT hit.out hS1.out.res s2
  have hB9 := (hS1.out.bel).grown s2 (by omega) (fun j hj => by cases hj; omega)
  generalize ((((((w1.setCell ⟨w.heap.size, 0, none⟩ (.int .i64 2)).setCell ⟨w.heap.size, 1, none⟩ (.slice ai ni ci)).setCell ⟨w.heap.size, 2, none⟩ (.string (str []))).setCell ⟨w.heap.size, 3, none⟩ (.slice va n vc)).setCell ⟨w.heap.size, 4, none⟩ (.int .u32 linE.const)).setCell ⟨w.heap.size, 5, none⟩ (.int .i64 0)) = w9 at s1 s2 hB9 hit9 ⊢
  obtain ⟨k0, k1, k2, k3, k4, k5⟩ := six_read s1
  refine bodyPost_ret (by simp [results, Tryz.results55, go_sem, k0, k1, k2, k3, k4, k5]; try rfl) rfl ?_
  exact ⟨hB9, _, va, n, vc, rfl, hit9, hn.out, TmLies.nil _ _⟩
set_option maxHeartbeats 1000000 in
theorem ddir_word (a : Option Addr) (c : Nat) (args : List (List Tok)) (hm : args.length <= 1100000) (h0 : args.length ≠ 0) (w : World) (hA : RArgsIn w.heap.size w a args) :
  Calls Tryz.prog 55 #[.string (str sWord), .slice a args.length c] w fun e w' => Below w.heap.size w w' /\ ThOut w' (dsevR (itsF 6 args)) e := by
 have hA0 := drst_new hA
 have hone := dsev_6 a c args hm (w.alloc (.cells zero6 38)) (rargs_mono hA0.ins hA0.bel.size (Nat.le_refl _))
 generalize itsF 6 args = RR at hone ⊢
 generalize args.length = n0 at hm h0 hone ⊢
 generalize hS : str sWord = S at hone ⊢
 obtain ⟨d0, d1, d2, d3, d4, d5, d6, d7⟩ := dfWord hS
 clear hS hA
 have hn0 : ¬ ((n0 : Int) = 0) := by omega
 cases RR with
 | error k =>
  rw [show dsevR (.error k) = .error k from rfl] at hone ⊢
  replace hone := Hid.intro hone
  replace hA0 := Hid.intro hA0
  go_enter Tryz.func55, Tryz.ntmps55
  go_wp2_with (go_at_call 85; (with_reducible refine (hone.out).mono ?_); rintro e w1 ⟨hb1, rfl⟩; have hS1 := Hid.intro (hA0.out.below hb1); have r0 := (cell_blockT hS1.out.res 0).trans rfl; have r1 := (cell_blockT hS1.out.res 1).trans rfl; have r2 := (cell_blockT hS1.out.res 2).trans rfl; have r3 := (cell_blockT hS1.out.res 3).trans rfl; have r4 := (cell_blockT hS1.out.res 4).trans rfl; have r5 := (cell_blockT hS1.out.res 5).trans rfl; have rf := fun j => frozen_of_row w1 w.heap.size j _ 38 hS1.out.res)
  all_goals first | omega | skip
  have hsz := hS1.out.bel.size
  obtain ⟨s1, s2⟩ := six_setT hS1.out.res (.int .i64 0) (.slice none 0 0) (.string (str [])) (.slice none 0 0) (.int .u32 0) (.int .i64 0)
  have hB9 := (hS1.out.bel).grown s2 (by omega) (fun j hj => by cases hj; omega)
  generalize ((((((w1.setCell ⟨w.heap.size, 0, none⟩ (.int .i64 0)).setCell ⟨w.heap.size, 1, none⟩ (.slice none 0 0)).setCell ⟨w.heap.size, 2, none⟩ (.string (str []))).setCell ⟨w.heap.size, 3, none⟩ (.slice none 0 0)).setCell ⟨w.heap.size, 4, none⟩ (.int .u32 0)).setCell ⟨w.heap.size, 5, none⟩ (.int .i64 0)) = w9 at s1 s2 hB9 ⊢
  obtain ⟨k0, k1, k2, k3, k4, k5⟩ := six_read s1
  refine bodyPost_ret (by simp [results, Tryz.results55, go_sem, k0, k1, k2, k3, k4, k5]; try rfl) rfl ?_
  exact ⟨hB9, rfl⟩
 | ok l =>
  rw [show dsevR (.ok l) = .ok ⟨2, l, [], linE, 0⟩ from rfl] at hone ⊢
  replace hone := Hid.intro hone
  replace hA0 := Hid.intro hA0
  go_enter Tryz.func55, Tryz.ntmps55
  go_wp2_with (go_at_call 85; (with_reducible refine (hone.out).mono ?_); rintro e w1 ⟨hb1, vi, va, n, vc, rfl, hit, hn, htm⟩; have hS1 := Hid.intro (hA0.out.below hb1); replace hit := Hid.intro hit; replace hn := Hid.intro hn; obtain ⟨ai, ni, ci, rfl⟩ := lie_sliceG hit.out; have r0 := (cell_blockT hS1.out.res 0).trans rfl; have r1 := (cell_blockT hS1.out.res 1).trans rfl; have r2 := (cell_blockT hS1.out.res 2).trans rfl; have r3 := (cell_blockT hS1.out.res 3).trans rfl; have r4 := (cell_blockT hS1.out.res 4).trans rfl; have r5 := (cell_blockT hS1.out.res 5).trans rfl; have rf := fun j => frozen_of_row w1 w.heap.size j _ 38 hS1.out.res)
  all_goals first | omega | skip
  have hsz := hS1.out.bel.size
  obtain ⟨s1, s2⟩ := six_setT hS1.out.res (.int .i64 2) (.slice ai ni ci) (.string (str [])) (.slice va n vc) (.int .u32 linE.const) (.int .i64 0)
  have hit9 := items_resT hit.out hS1.out.res s2
  have hB9 := (hS1.out.bel).grown s2 (by omega) (fun j hj => by cases hj; omega)
  generalize ((((((w1.setCell ⟨w.heap.size, 0, none⟩ (.int .i64 2)).setCell ⟨w.heap.size, 1, none⟩ (.slice ai ni ci)).setCell ⟨w.heap.size, 2, none⟩ (.string (str []))).setCell ⟨w.heap.size, 3, none⟩ (.slice va n vc)).setCell ⟨w.heap.size, 4, none⟩ (.int .u32 linE.const)).setCell ⟨w.heap.size, 5, none⟩ (.int .i64 0)) = w9 at s1 s2 hB9 hit9 ⊢
  obtain ⟨k0, k1, k2, k3, k4, k5⟩ := six_read s1
  refine bodyPost_ret (by simp [results, Tryz.results55, go_sem, k0, k1, k2, k3, k4, k5]; try rfl) rfl ?_
  exact ⟨hB9, _, va, n, vc, rfl, hit9, hn.out, TmLies.nil _ _⟩
set_option maxHeartbeats 1000000 in
theorem ddir_global (a : Option Addr) (c : Nat) (x0 : List Tok) (w : World) (hA : RArgsIn w.heap.size w a [x0]) :
  Calls Tryz.prog 55 #[.string (str sGlobal), .slice a 1 c] w fun e w' => Below w.heap.size w w' /\ ThOut w' (gloF x0) e := by
 generalize hS : str sGlobal = S
 obtain ⟨d0, d1, d2, d3, d4, d5, d6, d7⟩ := dfGlobal hS
 clear hS
 have hA0 := drst_new hA
 obtain ⟨G, hG⟩ : ∃ G, a = some ⟨G, 0, none⟩ := by
  rcases hA.outer with h | ⟨G, h, _⟩
  ·cases h
  ·exact ⟨G, h⟩
 subst hG
 obtain ⟨a', c', hcell, hT, _⟩ := rargs_at hA0.ins (i := 0) (xs := x0) rfl
 have hone := refNamed_any a' c' x0 (w.alloc (.cells zero6 38)) hT
 obtain ⟨R0, hR0⟩ : ∃ R0, gloF x0 = R0 := ⟨_, rfl⟩
 rw [hR0]
 unfold gloF at hR0
 clear hT hA
 generalize x0.length = ln at hcell hone
 replace hA0 := Hid.intro hA0
 cases hnf : nameF x0 with
 | error k =>
  rw [hnf] at hone hR0
  obtain rfl := nameF_err hnf
  have hO : Hid (R0 = .error 20) := hR0.symm
  simp only [nameVI] at hone
  replace hone := Hid.intro hone
  clear hR0 hnf
  go_enter Tryz.func55, Tryz.ntmps55
  go_upto_region 46 with (go_at_call 86; (with_reducible refine (hone.out).mono ?_); rintro e w1 ⟨rfl, hw1⟩; subst hw1)
  all_goals first | omega | skip
  have hS1 := hA0
  clear hcell hone hA0
  generalize (w.alloc (.cells zero6 38)) = w1 at hS1 ⊢
  obtain ⟨r0, r1, r2, r3, r4, r5⟩ := six_read hS1.out.res
  have rf := fun j => frozen_of_row w1 w.heap.size j _ 38 hS1.out.res
  go_wp2
  all_goals first | omega | skip
  have hsz := hS1.out.bel.size
  obtain ⟨s1, s2⟩ := six_setT hS1.out.res (.int .i64 0) (.slice none 0 0) (.string ⟨#[]⟩) (.slice none 0 0) (.int .u32 0) (.int .i64 0)
  have hB9 := (hS1.out.bel).grown s2 (by omega) (fun j hj => by cases hj; omega)
  generalize ((((((w1.setCell ⟨w.heap.size, 0, none⟩ (.int .i64 0)).setCell ⟨w.heap.size, 1, none⟩ (.slice none 0 0)).setCell ⟨w.heap.size, 2, none⟩ (.string ⟨#[]⟩)).setCell ⟨w.heap.size, 3, none⟩ (.slice none 0 0)).setCell ⟨w.heap.size, 4, none⟩ (.int .u32 0)).setCell ⟨w.heap.size, 5, none⟩ (.int .i64 0)) = w9 at s1 s2 hB9 ⊢
  obtain ⟨k0, k1, k2, k3, k4, k5⟩ := six_read s1
  refine bodyPost_ret (by simp [results, Tryz.results55, go_sem, k0, k1, k2, k3, k4, k5]; try rfl) rfl ?_
  rw [hO.out]
  exact ⟨hB9, rfl⟩
 | ok s =>
  rw [hnf] at hone hR0
  have hO : Hid (R0 = .ok ⟨4, [], s, linE, 0⟩) := hR0.symm
  simp only [nameVI] at hone
  replace hone := Hid.intro hone
  clear hR0 hnf
  go_enter Tryz.func55, Tryz.ntmps55
  go_upto_region 48 with (go_at_call 86; (with_reducible refine (hone.out).mono ?_); rintro e w1 ⟨rfl, hw1⟩; subst hw1)
  all_goals first | omega | skip
  have hS1 := hA0
  clear hcell hone hA0
  generalize (w.alloc (.cells zero6 38)) = w1 at hS1 ⊢
  obtain ⟨r0, r1, r2, r3, r4, r5⟩ := six_read hS1.out.res
  have rf := fun j => frozen_of_row w1 w.heap.size j _ 38 hS1.out.res
  go_wp2
  all_goals first | omega | skip
  have hsz := hS1.out.bel.size
  obtain ⟨s1, s2⟩ := six_setT hS1.out.res (.int .i64 4) (.slice none 0 0) (.string (str s)) (.slice none 0 0) (.int .u32 0) (.int .i64 0)
  have hB9 := (hS1.out.bel).grown s2 (by omega) (fun j hj => by cases hj; omega)
  generalize ((((((w1.setCell ⟨w.heap.size, 0, none⟩ (.int .i64 4)).setCell ⟨w.heap.size, 1, none⟩ (.slice none 0 0)).setCell ⟨w.heap.size, 2, none⟩ (.string (str s))).setCell ⟨w.heap.size, 3, none⟩ (.slice none 0 0)).setCell ⟨w.heap.size, 4, none⟩ (.int .u32 0)).setCell ⟨w.heap.size, 5, none⟩ (.int .i64 0)) = w9 at s1 s2 hB9 ⊢
  obtain ⟨k0, k1, k2, k3, k4, k5⟩ := six_read s1
  refine bodyPost_ret (by simp [results, Tryz.results55, go_sem, k0, k1, k2, k3, k4, k5]; try rfl) rfl ?_
  rw [hO.out]
  exact ⟨hB9, .slice none 0 0, none, 0, 0, rfl, .inl ⟨rfl, rfl⟩, rfl, TmLies.nil _ _⟩
set_option maxHeartbeats 1000000 in
theorem ddir_equ (a : Option Addr) (c : Nat) (x0 x1 : List Tok) (w : World) (hA : RArgsIn w.heap.size w a [x0, x1]) :
  Calls Tryz.prog 55 #[.string (str sEqu), .slice a 2 c] w fun e w' => Below w.heap.size w w' /\ ThOut w' (equF x0 x1) e := by
 generalize hS : str sEqu = S
 obtain ⟨d0, d1, d2, d3, d4, d5, d6, d7⟩ := dfEqu hS
 clear hS
 have hA0 := drst_new hA
 obtain ⟨G, hG⟩ : ∃ G, a = some ⟨G, 0, none⟩ := by
  rcases hA.outer with h | ⟨G, h, _⟩
  ·cases h
  ·exact ⟨G, h⟩
 subst hG
 obtain ⟨a', c', hcell, hT, _⟩ := rargs_at hA0.ins (i := 0) (xs := x0) rfl
 have hone := refNamed_any a' c' x0 (w.alloc (.cells zero6 38)) hT
 obtain ⟨a2, c2, hcell2, hT2, _⟩ := rargs_at hA0.ins (i := 1) (xs := x1) rfl
 have htwo := parseW a2 c2 x1 (w.alloc (.cells zero6 38)) hT2
 obtain ⟨R0, hR0⟩ : ∃ R0, equF x0 x1 = R0 := ⟨_, rfl⟩
 rw [hR0]
 unfold equF at hR0
 clear hT hT2 hA
 generalize x0.length = ln at hcell hone
 generalize x1.length = ln2 at hcell2 htwo
 replace hA0 := Hid.intro hA0
 cases hnf : nameF x0 with
 | error k =>
  rw [hnf] at hone hR0
  obtain rfl := nameF_err hnf
  have hO : Hid (R0 = .error 20) := hR0.symm
  simp only [nameVI] at hone
  replace hone := Hid.intro hone
  clear hR0 hnf htwo
  go_enter Tryz.func55, Tryz.ntmps55
  go_upto_region 46 with (go_at_call 86; (with_reducible refine (hone.out).mono ?_); rintro e w1 ⟨rfl, hw1⟩; subst hw1)
  all_goals first | omega | skip
  have hS1 := hA0
  clear hcell hcell2 hone hA0
  generalize (w.alloc (.cells zero6 38)) = w1 at hS1 ⊢
  obtain ⟨r0, r1, r2, r3, r4, r5⟩ := six_read hS1.out.res
  have rf := fun j => frozen_of_row w1 w.heap.size j _ 38 hS1.out.res
  go_wp2
  all_goals first | omega | skip
  have hsz := hS1.out.bel.size
  obtain ⟨s1, s2⟩ := six_setT hS1.out.res (.int .i64 0) (.slice none 0 0) (.string ⟨#[]⟩) (.slice none 0 0) (.int .u32 0) (.int .i64 0)
  have hB9 := (hS1.out.bel).grown s2 (by omega) (fun j hj => by cases hj; omega)
  generalize ((((((w1.setCell ⟨w.heap.size, 0, none⟩ (.int .i64 0)).setCell ⟨w.heap.size, 1, none⟩ (.slice none 0 0)).setCell ⟨w.heap.size, 2, none⟩ (.string ⟨#[]⟩)).setCell ⟨w.heap.size, 3, none⟩ (.slice none 0 0)).setCell ⟨w.heap.size, 4, none⟩ (.int .u32 0)).setCell ⟨w.heap.size, 5, none⟩ (.int .i64 0)) = w9 at s1 s2 hB9 ⊢
  obtain ⟨k0, k1, k2, k3, k4, k5⟩ := six_read s1
  refine bodyPost_ret (by simp [results, Tryz.results55, go_sem, k0, k1, k2, k3, k4, k5]; try rfl) rfl ?_
  rw [hO.out]
  exact ⟨hB9, rfl⟩
 | ok s =>
  rw [hnf] at hone hR0
  simp only [nameVI] at hone hR0
  replace hone := Hid.intro hone
  replace htwo := Hid.intro htwo
  replace hR0 := Hid.intro hR0
  go_enter Tryz.func55, Tryz.ntmps55
  go_upto_region 50 with (first | (go_at_call 86; (with_reducible refine (hone.out).mono ?_); rintro e w1 ⟨rfl, hw1⟩; subst hw1) | (go_at_call 84; (with_reducible refine (htwo.out).mono ?_); rintro e w2 ⟨hb2, y, vb, m, vd, rfl, hoy, hxy⟩; replace hoy := Hid.intro hoy; replace hxy := Hid.intro hxy))
  all_goals first | omega | skip
  have hS2 := hA0.out.below hb2
  have hS3 := hS2.below (below_alloc w2 (.cells #[.slice vb m vd, .int .u32 y.const] 31))
  have hlin := heap_alloc_new w2 (.cells #[.slice vb m vd, .int .u32 y.const] 31)
  have htm3 : TmLies (w2.alloc (.cells #[.slice vb m vd, .int .u32 y.const] 31)) vb y.terms := by
   have hnl := own_len hoy.out
   subst hnl
   exact (own_tmLies hoy.out).below (below_alloc w2 _) (Nat.le_refl _)
  have hmy : Hid (m = y.terms.length) := own_len hoy.out
  obtain ⟨p, hp⟩ : ∃ p, p = w2.heap.size := ⟨_, rfl⟩
  rw [<- hp] at hlin ⊢
  generalize (w2.alloc (.cells #[.slice vb m vd, .int .u32 y.const] 31)) = w3 at hS3 hlin htm3 ⊢
  clear hcell hcell2 hone htwo hA0 hoy hp hS2 hb2
  replace hS3 := Hid.intro hS3
  replace htm3 := Hid.intro htm3
  have q0 := (cell_blockT hlin 0).trans rfl
  have q1 := (cell_blockT hlin 1).trans rfl
  clear hlin
  cases h2 : parseF x1 with
  | error k2 =>
   have hO : Hid (R0 = .error k2) := by show R0 = _; rw [<- hR0.out, h2]
   rw [show whyOf (.error k2 : Except Int Lin) = k2 from rfl]
   have hk2 : (k2 == 0) = false := by rcases parseF_err h2 with rfl | rfl <;> rfl
   clear hxy q0 q1
   obtain ⟨r0, r1, r2, r3, r4, r5⟩ := six_read hS3.out.res
   have rf := fun j => frozen_of_row w3 w.heap.size j _ 38 hS3.out.res
   go_wp2
   all_goals first | omega | skip
   have hsz := hS3.out.bel.size
   obtain ⟨s1, s2⟩ := six_setT hS3.out.res (.int .i64 0) (.slice none 0 0) (.string ⟨#[]⟩) (.slice none 0 0) (.int .u32 0) (.int .i64 0)
   have hB9 := (hS3.out.bel).grown s2 (by omega) (fun j hj => by cases hj; omega)
   generalize ((((((w3.setCell ⟨w.heap.size, 0, none⟩ (.int .i64 0)).setCell ⟨w.heap.size, 1, none⟩ (.slice none 0 0)).setCell ⟨w.heap.size, 2, none⟩ (.string ⟨#[]⟩)).setCell ⟨w.heap.size, 3, none⟩ (.slice none 0 0)).setCell ⟨w.heap.size, 4, none⟩ (.int .u32 0)).setCell ⟨w.heap.size, 5, none⟩ (.int .i64 0)) = w9 at s1 s2 hB9 ⊢
   obtain ⟨k0, k1, k2, k3, k4, k5⟩ := six_read s1
   refine bodyPost_ret (by simp [results, Tryz.results55, go_sem, k0, k1, k2, k3, k4, k5]; try rfl) rfl ?_
   rw [hO.out]
   exact ⟨hB9, rfl⟩
  | ok y2 =>
   have hO : Hid (R0 = .ok ⟨3, [], s, y2, 0⟩) := by show R0 = _; rw [<- hR0.out, h2]
   rw [show whyOf (.ok y2 : Except Int Lin) = 0 from rfl]
   obtain rfl := hxy.out y2 h2
   clear hxy
   obtain ⟨r0, r1, r2, r3, r4, r5⟩ := six_read hS3.out.res
   have rf := fun j => frozen_of_row w3 w.heap.size j _ 38 hS3.out.res
   go_wp2
   all_goals first | omega | skip
   have hsz := hS3.out.bel.size
   obtain ⟨s1, s2⟩ := six_setT hS3.out.res (.int .i64 3) (.slice none 0 0) (.string (str s)) (.slice vb m vd) (.int .u32 y2.const) (.int .i64 0)
   have htm9 := tmLies_resT htm3.out hS3.out.res s2
   have hB9 := (hS3.out.bel).grown s2 (by omega) (fun j hj => by cases hj; omega)
   generalize ((((((w3.setCell ⟨w.heap.size, 0, none⟩ (.int .i64 3)).setCell ⟨w.heap.size, 1, none⟩ (.slice none 0 0)).setCell ⟨w.heap.size, 2, none⟩ (.string (str s))).setCell ⟨w.heap.size, 3, none⟩ (.slice vb m vd)).setCell ⟨w.heap.size, 4, none⟩ (.int .u32 y2.const)).setCell ⟨w.heap.size, 5, none⟩ (.int .i64 0)) = w9 at s1 s2 hB9 htm9 ⊢
   obtain ⟨k0, k1, k2, k3, k4, k5⟩ := six_read s1
   refine bodyPost_ret (by simp [results, Tryz.results55, go_sem, k0, k1, k2, k3, k4, k5]; try rfl) rfl ?_
   rw [hO.out]
   exact ⟨hB9, .slice none 0 0, vb, m, vd, rfl, .inl ⟨rfl, rfl⟩, hmy.out, htm9⟩
end Go.Proofs.YtlkmegchaeokgaaGreatDoor
/- The document's Read of any line. -/
namespace Go.Proofs.YtlkmegchaeokgaaGreatDoor
open Go.ChangeShapes Go.WideShapes Go.ChangeAt Go.RowKit
set_option linter.unusedVariables false
set_option maxRecDepth 100000
set_option maxHeartbeats 1000000 in
theorem refDir_err (lb s : List UInt8) (hs0 : s ≠ []) (hf : findN s = 0) (a : Option Addr) (n0 c : Nat) (args : List (List Tok)) (sec : Int) (w : World) (hA : RArgsIn w.heap.size w a args) (k : Int) (hk : k ≠ 0)
  (hdir : ∀ w1, RArgsIn w1.heap.size w1 a args -> Calls Tryz.prog 55 #[.string (str s), .slice a n0 c] w1 fun e w' => Below w1.heap.size w1 w' /\ ThOut w' (.error k) e) :
  Calls Tryz.prog 29 #[.agg #[.string (str lb), .string (str s), .slice a n0 c], .int .i64 sec] w fun e w' => Below w.heap.size w w' /\ ThOut w' (.error k) e := by
 have hne : ((str s).toList == []) = false := by rw [str_toList]; exact beq_false_of_ne hs0
 have hnm : nm (str s) = s := by simp [nm, str]
 have hfind := fun w1 => refFind_any (str s) w1
 rw [hnm, hf] at hfind
 replace hfind := Hid.intro hfind
 have hst0 := rrst_new hA lb s n0 c
 have hst : Hid (∀ w1, Below ((w.alloc (.cells #[.string (str lb), .string (str s), .slice a n0 c] 71)).alloc (.cells zero6 38)).heap.size ((w.alloc (.cells #[.string (str lb), .string (str s), .slice a n0 c] 71)).alloc (.cells zero6 38)) w1 -> RRSt w lb s a n0 c args w1) := fun w1 h1 => hst0.below h1
 have hdirH : Hid (∀ w1, RRSt w lb s a n0 c args w1 -> Calls Tryz.prog 55 #[.string (str s), .slice a n0 c] w1 fun e w' => Below w1.heap.size w1 w' /\ ThOut w' (.error k) e) := fun w1 h1 => hdir w1 (rargs_mono h1.ins h1.bel.size (Nat.le_refl _))
 clear hst0 hdir hA hnm hf hs0
 have hk0 : (k == 0) = false := by simpa using hk
 go_enter Tryz.func29, Tryz.ntmps29
 go_upto_region 13 with (first | (go_at_call 53; (with_reducible refine (hfind.out _).mono ?_); rintro e w1 ⟨rfl, hb1⟩; have hS1 := Hid.intro (hst.out w1 hb1); have l1 := (cell_blockT hS1.out.line 1).trans rfl; have l2 := (cell_blockT hS1.out.line 2).trans rfl) | (go_at_call 55; (with_reducible refine (hdirH.out w1 hS1.out).mono ?_); rintro e w2 ⟨hb2, rfl⟩))
 all_goals first | omega | skip
 have hS2 := (hS1.out.below hb2).below (below_alloc w2 (.cells #[.int .i64 0, .slice none 0 0, .string (str []), .slice none 0 0, .int .u32 0, .int .i64 0] 38))
 have hl2 := hS2.line
 generalize (w2.alloc (.cells #[.int .i64 0, .slice none 0 0, .string (str []), .slice none 0 0, .int .u32 0, .int .i64 0] 38)) = w3 at hS2 hl2 ⊢
 clear l1 l2 hb1 hb2 hS1 hst hdirH hfind
 replace hS2 := Hid.intro hS2
 have l1 := (cell_blockT hl2 1).trans rfl
 clear hl2
 obtain ⟨r0, r1, r2, r3, r4, r5⟩ := six_read hS2.out.res
 have rf := fun j => frozen_of_row w3 (w.heap.size + 1) j _ 38 hS2.out.res
 go_wp2
 all_goals first | omega | skip
 have hsz := hS2.out.bel.size
 obtain ⟨s1, s2⟩ := six_setT hS2.out.res (.int .i64 0) (.slice none 0 0) (.string ⟨#[]⟩) (.slice none 0 0) (.int .u32 0) (.int .i64 0)
 have hB9 := (hS2.out.bel).grown s2 (by omega) (fun j hj => by cases hj; omega)
 generalize ((((((w3.setCell ⟨w.heap.size + 1, 0, none⟩ (.int .i64 0)).setCell ⟨w.heap.size + 1, 1, none⟩ (.slice none 0 0)).setCell ⟨w.heap.size + 1, 2, none⟩ (.string ⟨#[]⟩)).setCell ⟨w.heap.size + 1, 3, none⟩ (.slice none 0 0)).setCell ⟨w.heap.size + 1, 4, none⟩ (.int .u32 0)).setCell ⟨w.heap.size + 1, 5, none⟩ (.int .i64 0)) = w9 at s1 s2 hB9 ⊢
 obtain ⟨k0, k1, k2, k3, k4, k5⟩ := six_read s1
 refine bodyPost_ret (by simp [results, Tryz.results29, go_sem, k0, k1, k2, k3, k4, k5]; try rfl) rfl ?_
 exact ⟨hB9, rfl⟩
set_option maxHeartbeats 1000000 in
theorem refDir_keep (lb s : List UInt8) (hs0 : s ≠ []) (hf : findN s = 0) (a : Option Addr) (n0 c : Nat) (args : List (List Tok)) (sec : Int) (w : World) (hA : RArgsIn w.heap.size w a args) (t : Thg) (dP : ((str s).toList == [112, 111, 111, 108]) = false) (dB : ((str s).toList == [98, 121, 116, 101]) = false) (dW : ((str s).toList == [119, 111, 114, 100]) = false) (dS : ((str s).toList == [115, 112, 97, 99, 101]) = false)
  (hdir : ∀ w1, RArgsIn w1.heap.size w1 a args -> Calls Tryz.prog 55 #[.string (str s), .slice a n0 c] w1 fun e w' => Below w1.heap.size w1 w' /\ ThOut w' (.ok t) e) :
  Calls Tryz.prog 29 #[.agg #[.string (str lb), .string (str s), .slice a n0 c], .int .i64 sec] w fun e w' => Below w.heap.size w w' /\ ThOut w' (.ok t) e := by
 have hne : ((str s).toList == []) = false := by rw [str_toList]; exact beq_false_of_ne hs0
 have hnm : nm (str s) = s := by simp [nm, str]
 have hfind := fun w1 => refFind_any (str s) w1
 rw [hnm, hf] at hfind
 replace hfind := Hid.intro hfind
 have hst0 := rrst_new hA lb s n0 c
 have hst : Hid (∀ w1, Below ((w.alloc (.cells #[.string (str lb), .string (str s), .slice a n0 c] 71)).alloc (.cells zero6 38)).heap.size ((w.alloc (.cells #[.string (str lb), .string (str s), .slice a n0 c] 71)).alloc (.cells zero6 38)) w1 -> RRSt w lb s a n0 c args w1) := fun w1 h1 => hst0.below h1
 have hdirH : Hid (∀ w1, RRSt w lb s a n0 c args w1 -> Calls Tryz.prog 55 #[.string (str s), .slice a n0 c] w1 fun e w' => Below w1.heap.size w1 w' /\ ThOut w' (.ok t) e) := fun w1 h1 => hdir w1 (rargs_mono h1.ins h1.bel.size (Nat.le_refl _))
 clear hst0 hdir hA hnm hf hs0
 go_enter Tryz.func29, Tryz.ntmps29
 go_upto_region 13 with (first | (go_at_call 53; (with_reducible refine (hfind.out _).mono ?_); rintro e w1 ⟨rfl, hb1⟩; have hS1 := Hid.intro (hst.out w1 hb1); have l1 := (cell_blockT hS1.out.line 1).trans rfl; have l2 := (cell_blockT hS1.out.line 2).trans rfl) | (go_at_call 55; (with_reducible refine (hdirH.out w1 hS1.out).mono ?_); rintro e w2 ⟨hb2, vi, va, n, vc, rfl, hit, hn, htm⟩; obtain ⟨ai, ni, ci, rfl⟩ := lie_sliceG hit; replace hit := Hid.intro hit; replace hn := Hid.intro hn; replace htm := Hid.intro htm))
 all_goals first | omega | skip
 have hS2 := (hS1.out.below hb2).below (below_alloc w2 (.cells #[.int .i64 t.kind, .slice ai ni ci, .string (str t.name), .slice va n vc, .int .u32 t.e.const, .int .i64 t.sec] 38))
 have hrow := heap_alloc_new w2 (.cells #[.int .i64 t.kind, .slice ai ni ci, .string (str t.name), .slice va n vc, .int .u32 t.e.const, .int .i64 t.sec] 38)
 have hit3 := hit.out.below (below_alloc w2 (.cells #[.int .i64 t.kind, .slice ai ni ci, .string (str t.name), .slice va n vc, .int .u32 t.e.const, .int .i64 t.sec] 38))
 have htm3 := htm.out.below (below_alloc w2 (.cells #[.int .i64 t.kind, .slice ai ni ci, .string (str t.name), .slice va n vc, .int .u32 t.e.const, .int .i64 t.sec] 38)) (Nat.le_refl _)
 obtain ⟨p, hp⟩ : ∃ p, p = w2.heap.size := ⟨_, rfl⟩
 rw [<- hp] at hrow ⊢
 generalize (w2.alloc (.cells #[.int .i64 t.kind, .slice ai ni ci, .string (str t.name), .slice va n vc, .int .u32 t.e.const, .int .i64 t.sec] 38)) = w3 at hS2 hrow hit3 htm3 ⊢
 clear l1 l2 hb1 hb2 hS1 hst hdirH hfind hp hit htm
 have hl2 := hS2.line
 replace hS2 := Hid.intro hS2
 replace hit3 := Hid.intro hit3
 replace htm3 := Hid.intro htm3
 have l1 := (cell_blockT hl2 1).trans rfl
 clear hl2
 have u0 := (cell_blockT hrow 0).trans rfl
 have u1 := (cell_blockT hrow 1).trans rfl
 have u2 := (cell_blockT hrow 2).trans rfl
 have u3 := (cell_blockT hrow 3).trans rfl
 have u4 := (cell_blockT hrow 4).trans rfl
 have u5 := (cell_blockT hrow 5).trans rfl
 obtain ⟨r0, r1, r2, r3, r4, r5⟩ := six_read hS2.out.res
 have rf := fun j => frozen_of_row w3 (w.heap.size + 1) j _ 38 hS2.out.res
 clear hrow
 go_wp2
 all_goals first | omega | skip
 have hsz := hS2.out.bel.size
 obtain ⟨s1, s2⟩ := six_setT hS2.out.res (.int .i64 t.kind) (.slice ai ni ci) (.string (str t.name)) (.slice va n vc) (.int .u32 t.e.const) (.int .i64 t.sec)
 have hit9 := items_resT hit3.out hS2.out.res s2
 have htm9 := tmLies_resT htm3.out hS2.out.res s2
 have hB9 := (hS2.out.bel).grown s2 (by omega) (fun j hj => by cases hj; omega)
 generalize ((((((w3.setCell ⟨w.heap.size + 1, 0, none⟩ (.int .i64 t.kind)).setCell ⟨w.heap.size + 1, 1, none⟩ (.slice ai ni ci)).setCell ⟨w.heap.size + 1, 2, none⟩ (.string (str t.name))).setCell ⟨w.heap.size + 1, 3, none⟩ (.slice va n vc)).setCell ⟨w.heap.size + 1, 4, none⟩ (.int .u32 t.e.const)).setCell ⟨w.heap.size + 1, 5, none⟩ (.int .i64 t.sec)) = w9 at s1 s2 hB9 hit9 htm9 ⊢
 obtain ⟨k0, k1, k2, k3, k4, k5⟩ := six_read s1
 refine bodyPost_ret (by simp [results, Tryz.results29, go_sem, k0, k1, k2, k3, k4, k5]; try rfl) rfl ?_
 exact ⟨hB9, _, va, n, vc, rfl, hit9, hn.out, htm9⟩
set_option maxHeartbeats 1000000 in
theorem refDir_poolBad (lb s : List UInt8) (hs0 : s ≠ []) (hf : findN s = 0) (a : Option Addr) (n0 c : Nat) (args : List (List Tok)) (sec : Int) (w : World) (hA : RArgsIn w.heap.size w a args) (t : Thg) (dP : ((str s).toList == [112, 111, 111, 108]) = true) (hsec : sec = 1)
  (hdir : ∀ w1, RArgsIn w1.heap.size w1 a args -> Calls Tryz.prog 55 #[.string (str s), .slice a n0 c] w1 fun e w' => Below w1.heap.size w1 w' /\ ThOut w' (.ok t) e) :
  Calls Tryz.prog 29 #[.agg #[.string (str lb), .string (str s), .slice a n0 c], .int .i64 sec] w fun e w' => Below w.heap.size w w' /\ ThOut w' (.error 21) e := by
 have hsc : (sec == 1) = true := by simp [hsec]
 clear hsec
 have hne : ((str s).toList == []) = false := by rw [str_toList]; exact beq_false_of_ne hs0
 have hnm : nm (str s) = s := by simp [nm, str]
 have hfind := fun w1 => refFind_any (str s) w1
 rw [hnm, hf] at hfind
 replace hfind := Hid.intro hfind
 have hst0 := rrst_new hA lb s n0 c
 have hst : Hid (∀ w1, Below ((w.alloc (.cells #[.string (str lb), .string (str s), .slice a n0 c] 71)).alloc (.cells zero6 38)).heap.size ((w.alloc (.cells #[.string (str lb), .string (str s), .slice a n0 c] 71)).alloc (.cells zero6 38)) w1 -> RRSt w lb s a n0 c args w1) := fun w1 h1 => hst0.below h1
 have hdirH : Hid (∀ w1, RRSt w lb s a n0 c args w1 -> Calls Tryz.prog 55 #[.string (str s), .slice a n0 c] w1 fun e w' => Below w1.heap.size w1 w' /\ ThOut w' (.ok t) e) := fun w1 h1 => hdir w1 (rargs_mono h1.ins h1.bel.size (Nat.le_refl _))
 clear hst0 hdir hA hnm hf hs0
 go_enter Tryz.func29, Tryz.ntmps29
 go_upto_region 13 with (first | (go_at_call 53; (with_reducible refine (hfind.out _).mono ?_); rintro e w1 ⟨rfl, hb1⟩; have hS1 := Hid.intro (hst.out w1 hb1); have l1 := (cell_blockT hS1.out.line 1).trans rfl; have l2 := (cell_blockT hS1.out.line 2).trans rfl) | (go_at_call 55; (with_reducible refine (hdirH.out w1 hS1.out).mono ?_); rintro e w2 ⟨hb2, vi, va, n, vc, rfl, hit, hn, htm⟩; obtain ⟨ai, ni, ci, rfl⟩ := lie_sliceG hit; replace hit := Hid.intro hit; replace hn := Hid.intro hn; replace htm := Hid.intro htm))
 all_goals first | omega | skip
 have hS2 := (hS1.out.below hb2).below (below_alloc w2 (.cells #[.int .i64 t.kind, .slice ai ni ci, .string (str t.name), .slice va n vc, .int .u32 t.e.const, .int .i64 t.sec] 38))
 have hrow := heap_alloc_new w2 (.cells #[.int .i64 t.kind, .slice ai ni ci, .string (str t.name), .slice va n vc, .int .u32 t.e.const, .int .i64 t.sec] 38)
 have hit3 := hit.out.below (below_alloc w2 (.cells #[.int .i64 t.kind, .slice ai ni ci, .string (str t.name), .slice va n vc, .int .u32 t.e.const, .int .i64 t.sec] 38))
 have htm3 := htm.out.below (below_alloc w2 (.cells #[.int .i64 t.kind, .slice ai ni ci, .string (str t.name), .slice va n vc, .int .u32 t.e.const, .int .i64 t.sec] 38)) (Nat.le_refl _)
 obtain ⟨p, hp⟩ : ∃ p, p = w2.heap.size := ⟨_, rfl⟩
 rw [<- hp] at hrow ⊢
 generalize (w2.alloc (.cells #[.int .i64 t.kind, .slice ai ni ci, .string (str t.name), .slice va n vc, .int .u32 t.e.const, .int .i64 t.sec] 38)) = w3 at hS2 hrow hit3 htm3 ⊢
 clear l1 l2 hb1 hb2 hS1 hst hdirH hfind hp hit htm
 have hl2 := hS2.line
 replace hS2 := Hid.intro hS2
 replace hit3 := Hid.intro hit3
 replace htm3 := Hid.intro htm3
 have l1 := (cell_blockT hl2 1).trans rfl
 clear hl2
 clear hrow
 obtain ⟨r0, r1, r2, r3, r4, r5⟩ := six_read hS2.out.res
 have rf := fun j => frozen_of_row w3 (w.heap.size + 1) j _ 38 hS2.out.res
 go_wp2
 all_goals first | omega | skip
 have hsz := hS2.out.bel.size
 obtain ⟨s1, s2⟩ := six_setT hS2.out.res (.int .i64 0) (.slice none 0 0) (.string ⟨#[]⟩) (.slice none 0 0) (.int .u32 0) (.int .i64 0)
 have hB9 := (hS2.out.bel).grown s2 (by omega) (fun j hj => by cases hj; omega)
 generalize ((((((w3.setCell ⟨w.heap.size + 1, 0, none⟩ (.int .i64 0)).setCell ⟨w.heap.size + 1, 1, none⟩ (.slice none 0 0)).setCell ⟨w.heap.size + 1, 2, none⟩ (.string ⟨#[]⟩)).setCell ⟨w.heap.size + 1, 3, none⟩ (.slice none 0 0)).setCell ⟨w.heap.size + 1, 4, none⟩ (.int .u32 0)).setCell ⟨w.heap.size + 1, 5, none⟩ (.int .i64 0)) = w9 at s1 s2 hB9 ⊢
 obtain ⟨k0, k1, k2, k3, k4, k5⟩ := six_read s1
 refine bodyPost_ret (by simp [results, Tryz.results29, go_sem, k0, k1, k2, k3, k4, k5]; try rfl) rfl ?_
 exact ⟨hB9, rfl⟩
set_option maxHeartbeats 1000000 in
theorem refDir_poolOk (lb s : List UInt8) (hs0 : s ≠ []) (hf : findN s = 0) (a : Option Addr) (n0 c : Nat) (args : List (List Tok)) (sec : Int) (w : World) (hA : RArgsIn w.heap.size w a args) (t : Thg) (dP : ((str s).toList == [112, 111, 111, 108]) = true) (dB : ((str s).toList == [98, 121, 116, 101]) = false) (dW : ((str s).toList == [119, 111, 114, 100]) = false) (dS : ((str s).toList == [115, 112, 97, 99, 101]) = false) (hsec : sec ≠ 1)
  (hdir : ∀ w1, RArgsIn w1.heap.size w1 a args -> Calls Tryz.prog 55 #[.string (str s), .slice a n0 c] w1 fun e w' => Below w1.heap.size w1 w' /\ ThOut w' (.ok t) e) :
  Calls Tryz.prog 29 #[.agg #[.string (str lb), .string (str s), .slice a n0 c], .int .i64 sec] w fun e w' => Below w.heap.size w w' /\ ThOut w' (.ok t) e := by
 have hsc : (sec == 1) = false := by simp [hsec]
 clear hsec
 have hne : ((str s).toList == []) = false := by rw [str_toList]; exact beq_false_of_ne hs0
 have hnm : nm (str s) = s := by simp [nm, str]
 have hfind := fun w1 => refFind_any (str s) w1
 rw [hnm, hf] at hfind
 replace hfind := Hid.intro hfind
 have hst0 := rrst_new hA lb s n0 c
 have hst : Hid (∀ w1, Below ((w.alloc (.cells #[.string (str lb), .string (str s), .slice a n0 c] 71)).alloc (.cells zero6 38)).heap.size ((w.alloc (.cells #[.string (str lb), .string (str s), .slice a n0 c] 71)).alloc (.cells zero6 38)) w1 -> RRSt w lb s a n0 c args w1) := fun w1 h1 => hst0.below h1
 have hdirH : Hid (∀ w1, RRSt w lb s a n0 c args w1 -> Calls Tryz.prog 55 #[.string (str s), .slice a n0 c] w1 fun e w' => Below w1.heap.size w1 w' /\ ThOut w' (.ok t) e) := fun w1 h1 => hdir w1 (rargs_mono h1.ins h1.bel.size (Nat.le_refl _))
 clear hst0 hdir hA hnm hf hs0
 go_enter Tryz.func29, Tryz.ntmps29
 go_upto_region 13 with (first | (go_at_call 53; (with_reducible refine (hfind.out _).mono ?_); rintro e w1 ⟨rfl, hb1⟩; have hS1 := Hid.intro (hst.out w1 hb1); have l1 := (cell_blockT hS1.out.line 1).trans rfl; have l2 := (cell_blockT hS1.out.line 2).trans rfl) | (go_at_call 55; (with_reducible refine (hdirH.out w1 hS1.out).mono ?_); rintro e w2 ⟨hb2, vi, va, n, vc, rfl, hit, hn, htm⟩; obtain ⟨ai, ni, ci, rfl⟩ := lie_sliceG hit; replace hit := Hid.intro hit; replace hn := Hid.intro hn; replace htm := Hid.intro htm))
 all_goals first | omega | skip
 have hS2 := (hS1.out.below hb2).below (below_alloc w2 (.cells #[.int .i64 t.kind, .slice ai ni ci, .string (str t.name), .slice va n vc, .int .u32 t.e.const, .int .i64 t.sec] 38))
 have hrow := heap_alloc_new w2 (.cells #[.int .i64 t.kind, .slice ai ni ci, .string (str t.name), .slice va n vc, .int .u32 t.e.const, .int .i64 t.sec] 38)
 have hit3 := hit.out.below (below_alloc w2 (.cells #[.int .i64 t.kind, .slice ai ni ci, .string (str t.name), .slice va n vc, .int .u32 t.e.const, .int .i64 t.sec] 38))
 have htm3 := htm.out.below (below_alloc w2 (.cells #[.int .i64 t.kind, .slice ai ni ci, .string (str t.name), .slice va n vc, .int .u32 t.e.const, .int .i64 t.sec] 38)) (Nat.le_refl _)
 obtain ⟨p, hp⟩ : ∃ p, p = w2.heap.size := ⟨_, rfl⟩
 rw [<- hp] at hrow ⊢
 generalize (w2.alloc (.cells #[.int .i64 t.kind, .slice ai ni ci, .string (str t.name), .slice va n vc, .int .u32 t.e.const, .int .i64 t.sec] 38)) = w3 at hS2 hrow hit3 htm3 ⊢
 clear l1 l2 hb1 hb2 hS1 hst hdirH hfind hp hit htm
 have hl2 := hS2.line
 replace hS2 := Hid.intro hS2
 replace hit3 := Hid.intro hit3
 replace htm3 := Hid.intro htm3
 have l1 := (cell_blockT hl2 1).trans rfl
 clear hl2
 have u0 := (cell_blockT hrow 0).trans rfl
 have u1 := (cell_blockT hrow 1).trans rfl
 have u2 := (cell_blockT hrow 2).trans rfl
 have u3 := (cell_blockT hrow 3).trans rfl
 have u4 := (cell_blockT hrow 4).trans rfl
 have u5 := (cell_blockT hrow 5).trans rfl
 obtain ⟨r0, r1, r2, r3, r4, r5⟩ := six_read hS2.out.res
 have rf := fun j => frozen_of_row w3 (w.heap.size + 1) j _ 38 hS2.out.res
 clear hrow
 go_wp2
 all_goals first | omega | skip
 have hsz := hS2.out.bel.size
 obtain ⟨s1, s2⟩ := six_setT hS2.out.res (.int .i64 t.kind) (.slice ai ni ci) (.string (str t.name)) (.slice va n vc) (.int .u32 t.e.const) (.int .i64 t.sec)
 have hit9 := items_resT hit3.out hS2.out.res s2
 have htm9 := tmLies_resT htm3.out hS2.out.res s2
 have hB9 := (hS2.out.bel).grown s2 (by omega) (fun j hj => by cases hj; omega)
 generalize ((((((w3.setCell ⟨w.heap.size + 1, 0, none⟩ (.int .i64 t.kind)).setCell ⟨w.heap.size + 1, 1, none⟩ (.slice ai ni ci)).setCell ⟨w.heap.size + 1, 2, none⟩ (.string (str t.name))).setCell ⟨w.heap.size + 1, 3, none⟩ (.slice va n vc)).setCell ⟨w.heap.size + 1, 4, none⟩ (.int .u32 t.e.const)).setCell ⟨w.heap.size + 1, 5, none⟩ (.int .i64 t.sec)) = w9 at s1 s2 hB9 hit9 htm9 ⊢
 obtain ⟨k0, k1, k2, k3, k4, k5⟩ := six_read s1
 refine bodyPost_ret (by simp [results, Tryz.results29, go_sem, k0, k1, k2, k3, k4, k5]; try rfl) rfl ?_
 exact ⟨hB9, _, va, n, vc, rfl, hit9, hn.out, htm9⟩
set_option maxHeartbeats 1000000 in
theorem refDir_byteBad (lb s : List UInt8) (hs0 : s ≠ []) (hf : findN s = 0) (a : Option Addr) (n0 c : Nat) (args : List (List Tok)) (sec : Int) (w : World) (hA : RArgsIn w.heap.size w a args) (t : Thg) (dP : ((str s).toList == [112, 111, 111, 108]) = false) (dB : ((str s).toList == [98, 121, 116, 101]) = true) (hsec : sec ≠ 1)
  (hdir : ∀ w1, RArgsIn w1.heap.size w1 a args -> Calls Tryz.prog 55 #[.string (str s), .slice a n0 c] w1 fun e w' => Below w1.heap.size w1 w' /\ ThOut w' (.ok t) e) :
  Calls Tryz.prog 29 #[.agg #[.string (str lb), .string (str s), .slice a n0 c], .int .i64 sec] w fun e w' => Below w.heap.size w w' /\ ThOut w' (.error 21) e := by
 have hsc : (sec == 1) = false := by simp [hsec]
 clear hsec
 have hne : ((str s).toList == []) = false := by rw [str_toList]; exact beq_false_of_ne hs0
 have hnm : nm (str s) = s := by simp [nm, str]
 have hfind := fun w1 => refFind_any (str s) w1
 rw [hnm, hf] at hfind
 replace hfind := Hid.intro hfind
 have hst0 := rrst_new hA lb s n0 c
 have hst : Hid (∀ w1, Below ((w.alloc (.cells #[.string (str lb), .string (str s), .slice a n0 c] 71)).alloc (.cells zero6 38)).heap.size ((w.alloc (.cells #[.string (str lb), .string (str s), .slice a n0 c] 71)).alloc (.cells zero6 38)) w1 -> RRSt w lb s a n0 c args w1) := fun w1 h1 => hst0.below h1
 have hdirH : Hid (∀ w1, RRSt w lb s a n0 c args w1 -> Calls Tryz.prog 55 #[.string (str s), .slice a n0 c] w1 fun e w' => Below w1.heap.size w1 w' /\ ThOut w' (.ok t) e) := fun w1 h1 => hdir w1 (rargs_mono h1.ins h1.bel.size (Nat.le_refl _))
 clear hst0 hdir hA hnm hf hs0
 go_enter Tryz.func29, Tryz.ntmps29
 go_upto_region 13 with (first | (go_at_call 53; (with_reducible refine (hfind.out _).mono ?_); rintro e w1 ⟨rfl, hb1⟩; have hS1 := Hid.intro (hst.out w1 hb1); have l1 := (cell_blockT hS1.out.line 1).trans rfl; have l2 := (cell_blockT hS1.out.line 2).trans rfl) | (go_at_call 55; (with_reducible refine (hdirH.out w1 hS1.out).mono ?_); rintro e w2 ⟨hb2, vi, va, n, vc, rfl, hit, hn, htm⟩; obtain ⟨ai, ni, ci, rfl⟩ := lie_sliceG hit; replace hit := Hid.intro hit; replace hn := Hid.intro hn; replace htm := Hid.intro htm))
 all_goals first | omega | skip
 have hS2 := (hS1.out.below hb2).below (below_alloc w2 (.cells #[.int .i64 t.kind, .slice ai ni ci, .string (str t.name), .slice va n vc, .int .u32 t.e.const, .int .i64 t.sec] 38))
 have hrow := heap_alloc_new w2 (.cells #[.int .i64 t.kind, .slice ai ni ci, .string (str t.name), .slice va n vc, .int .u32 t.e.const, .int .i64 t.sec] 38)
 have hit3 := hit.out.below (below_alloc w2 (.cells #[.int .i64 t.kind, .slice ai ni ci, .string (str t.name), .slice va n vc, .int .u32 t.e.const, .int .i64 t.sec] 38))
 have htm3 := htm.out.below (below_alloc w2 (.cells #[.int .i64 t.kind, .slice ai ni ci, .string (str t.name), .slice va n vc, .int .u32 t.e.const, .int .i64 t.sec] 38)) (Nat.le_refl _)
 obtain ⟨p, hp⟩ : ∃ p, p = w2.heap.size := ⟨_, rfl⟩
 rw [<- hp] at hrow ⊢
 generalize (w2.alloc (.cells #[.int .i64 t.kind, .slice ai ni ci, .string (str t.name), .slice va n vc, .int .u32 t.e.const, .int .i64 t.sec] 38)) = w3 at hS2 hrow hit3 htm3 ⊢
 clear l1 l2 hb1 hb2 hS1 hst hdirH hfind hp hit htm
 have hl2 := hS2.line
 replace hS2 := Hid.intro hS2
 replace hit3 := Hid.intro hit3
 replace htm3 := Hid.intro htm3
 have l1 := (cell_blockT hl2 1).trans rfl
 clear hl2
 clear hrow
 obtain ⟨r0, r1, r2, r3, r4, r5⟩ := six_read hS2.out.res
 have rf := fun j => frozen_of_row w3 (w.heap.size + 1) j _ 38 hS2.out.res
 go_wp2
 all_goals first | omega | skip
 have hsz := hS2.out.bel.size
 obtain ⟨s1, s2⟩ := six_setT hS2.out.res (.int .i64 0) (.slice none 0 0) (.string ⟨#[]⟩) (.slice none 0 0) (.int .u32 0) (.int .i64 0)
 have hB9 := (hS2.out.bel).grown s2 (by omega) (fun j hj => by cases hj; omega)
 generalize ((((((w3.setCell ⟨w.heap.size + 1, 0, none⟩ (.int .i64 0)).setCell ⟨w.heap.size + 1, 1, none⟩ (.slice none 0 0)).setCell ⟨w.heap.size + 1, 2, none⟩ (.string ⟨#[]⟩)).setCell ⟨w.heap.size + 1, 3, none⟩ (.slice none 0 0)).setCell ⟨w.heap.size + 1, 4, none⟩ (.int .u32 0)).setCell ⟨w.heap.size + 1, 5, none⟩ (.int .i64 0)) = w9 at s1 s2 hB9 ⊢
 obtain ⟨k0, k1, k2, k3, k4, k5⟩ := six_read s1
 refine bodyPost_ret (by simp [results, Tryz.results29, go_sem, k0, k1, k2, k3, k4, k5]; try rfl) rfl ?_
 exact ⟨hB9, rfl⟩
set_option maxHeartbeats 1000000 in
theorem refDir_byteOk (lb s : List UInt8) (hs0 : s ≠ []) (hf : findN s = 0) (a : Option Addr) (n0 c : Nat) (args : List (List Tok)) (sec : Int) (w : World) (hA : RArgsIn w.heap.size w a args) (t : Thg) (dP : ((str s).toList == [112, 111, 111, 108]) = false) (dB : ((str s).toList == [98, 121, 116, 101]) = true) (hsec : sec = 1)
  (hdir : ∀ w1, RArgsIn w1.heap.size w1 a args -> Calls Tryz.prog 55 #[.string (str s), .slice a n0 c] w1 fun e w' => Below w1.heap.size w1 w' /\ ThOut w' (.ok t) e) :
  Calls Tryz.prog 29 #[.agg #[.string (str lb), .string (str s), .slice a n0 c], .int .i64 sec] w fun e w' => Below w.heap.size w w' /\ ThOut w' (.ok t) e := by
 have hsc : (sec == 1) = true := by simp [hsec]
 clear hsec
 have hne : ((str s).toList == []) = false := by rw [str_toList]; exact beq_false_of_ne hs0
 have hnm : nm (str s) = s := by simp [nm, str]
 have hfind := fun w1 => refFind_any (str s) w1
 rw [hnm, hf] at hfind
 replace hfind := Hid.intro hfind
 have hst0 := rrst_new hA lb s n0 c
 have hst : Hid (∀ w1, Below ((w.alloc (.cells #[.string (str lb), .string (str s), .slice a n0 c] 71)).alloc (.cells zero6 38)).heap.size ((w.alloc (.cells #[.string (str lb), .string (str s), .slice a n0 c] 71)).alloc (.cells zero6 38)) w1 -> RRSt w lb s a n0 c args w1) := fun w1 h1 => hst0.below h1
 have hdirH : Hid (∀ w1, RRSt w lb s a n0 c args w1 -> Calls Tryz.prog 55 #[.string (str s), .slice a n0 c] w1 fun e w' => Below w1.heap.size w1 w' /\ ThOut w' (.ok t) e) := fun w1 h1 => hdir w1 (rargs_mono h1.ins h1.bel.size (Nat.le_refl _))
 clear hst0 hdir hA hnm hf hs0
 go_enter Tryz.func29, Tryz.ntmps29
 go_upto_region 13 with (first | (go_at_call 53; (with_reducible refine (hfind.out _).mono ?_); rintro e w1 ⟨rfl, hb1⟩; have hS1 := Hid.intro (hst.out w1 hb1); have l1 := (cell_blockT hS1.out.line 1).trans rfl; have l2 := (cell_blockT hS1.out.line 2).trans rfl) | (go_at_call 55; (with_reducible refine (hdirH.out w1 hS1.out).mono ?_); rintro e w2 ⟨hb2, vi, va, n, vc, rfl, hit, hn, htm⟩; obtain ⟨ai, ni, ci, rfl⟩ := lie_sliceG hit; replace hit := Hid.intro hit; replace hn := Hid.intro hn; replace htm := Hid.intro htm))
 all_goals first | omega | skip
 have hS2 := (hS1.out.below hb2).below (below_alloc w2 (.cells #[.int .i64 t.kind, .slice ai ni ci, .string (str t.name), .slice va n vc, .int .u32 t.e.const, .int .i64 t.sec] 38))
 have hrow := heap_alloc_new w2 (.cells #[.int .i64 t.kind, .slice ai ni ci, .string (str t.name), .slice va n vc, .int .u32 t.e.const, .int .i64 t.sec] 38)
 have hit3 := hit.out.below (below_alloc w2 (.cells #[.int .i64 t.kind, .slice ai ni ci, .string (str t.name), .slice va n vc, .int .u32 t.e.const, .int .i64 t.sec] 38))
 have htm3 := htm.out.below (below_alloc w2 (.cells #[.int .i64 t.kind, .slice ai ni ci, .string (str t.name), .slice va n vc, .int .u32 t.e.const, .int .i64 t.sec] 38)) (Nat.le_refl _)
 obtain ⟨p, hp⟩ : ∃ p, p = w2.heap.size := ⟨_, rfl⟩
 rw [<- hp] at hrow ⊢
 generalize (w2.alloc (.cells #[.int .i64 t.kind, .slice ai ni ci, .string (str t.name), .slice va n vc, .int .u32 t.e.const, .int .i64 t.sec] 38)) = w3 at hS2 hrow hit3 htm3 ⊢
 clear l1 l2 hb1 hb2 hS1 hst hdirH hfind hp hit htm
 have hl2 := hS2.line
 replace hS2 := Hid.intro hS2
 replace hit3 := Hid.intro hit3
 replace htm3 := Hid.intro htm3
 have l1 := (cell_blockT hl2 1).trans rfl
 clear hl2
 have u0 := (cell_blockT hrow 0).trans rfl
 have u1 := (cell_blockT hrow 1).trans rfl
 have u2 := (cell_blockT hrow 2).trans rfl
 have u3 := (cell_blockT hrow 3).trans rfl
 have u4 := (cell_blockT hrow 4).trans rfl
 have u5 := (cell_blockT hrow 5).trans rfl
 obtain ⟨r0, r1, r2, r3, r4, r5⟩ := six_read hS2.out.res
 have rf := fun j => frozen_of_row w3 (w.heap.size + 1) j _ 38 hS2.out.res
 clear hrow
 go_wp2
 all_goals first | omega | skip
 have hsz := hS2.out.bel.size
 obtain ⟨s1, s2⟩ := six_setT hS2.out.res (.int .i64 t.kind) (.slice ai ni ci) (.string (str t.name)) (.slice va n vc) (.int .u32 t.e.const) (.int .i64 t.sec)
 have hit9 := items_resT hit3.out hS2.out.res s2
 have htm9 := tmLies_resT htm3.out hS2.out.res s2
 have hB9 := (hS2.out.bel).grown s2 (by omega) (fun j hj => by cases hj; omega)
 generalize ((((((w3.setCell ⟨w.heap.size + 1, 0, none⟩ (.int .i64 t.kind)).setCell ⟨w.heap.size + 1, 1, none⟩ (.slice ai ni ci)).setCell ⟨w.heap.size + 1, 2, none⟩ (.string (str t.name))).setCell ⟨w.heap.size + 1, 3, none⟩ (.slice va n vc)).setCell ⟨w.heap.size + 1, 4, none⟩ (.int .u32 t.e.const)).setCell ⟨w.heap.size + 1, 5, none⟩ (.int .i64 t.sec)) = w9 at s1 s2 hB9 hit9 htm9 ⊢
 obtain ⟨k0, k1, k2, k3, k4, k5⟩ := six_read s1
 refine bodyPost_ret (by simp [results, Tryz.results29, go_sem, k0, k1, k2, k3, k4, k5]; try rfl) rfl ?_
 exact ⟨hB9, _, va, n, vc, rfl, hit9, hn.out, htm9⟩
set_option maxHeartbeats 1000000 in
theorem refDir_wordBad (lb s : List UInt8) (hs0 : s ≠ []) (hf : findN s = 0) (a : Option Addr) (n0 c : Nat) (args : List (List Tok)) (sec : Int) (w : World) (hA : RArgsIn w.heap.size w a args) (t : Thg) (dP : ((str s).toList == [112, 111, 111, 108]) = false) (dB : ((str s).toList == [98, 121, 116, 101]) = false) (dW : ((str s).toList == [119, 111, 114, 100]) = true) (hsec : sec ≠ 1)
  (hdir : ∀ w1, RArgsIn w1.heap.size w1 a args -> Calls Tryz.prog 55 #[.string (str s), .slice a n0 c] w1 fun e w' => Below w1.heap.size w1 w' /\ ThOut w' (.ok t) e) :
  Calls Tryz.prog 29 #[.agg #[.string (str lb), .string (str s), .slice a n0 c], .int .i64 sec] w fun e w' => Below w.heap.size w w' /\ ThOut w' (.error 21) e := by
 have hsc : (sec == 1) = false := by simp [hsec]
 clear hsec
 have hne : ((str s).toList == []) = false := by rw [str_toList]; exact beq_false_of_ne hs0
 have hnm : nm (str s) = s := by simp [nm, str]
 have hfind := fun w1 => refFind_any (str s) w1
 rw [hnm, hf] at hfind
 replace hfind := Hid.intro hfind
 have hst0 := rrst_new hA lb s n0 c
 have hst : Hid (∀ w1, Below ((w.alloc (.cells #[.string (str lb), .string (str s), .slice a n0 c] 71)).alloc (.cells zero6 38)).heap.size ((w.alloc (.cells #[.string (str lb), .string (str s), .slice a n0 c] 71)).alloc (.cells zero6 38)) w1 -> RRSt w lb s a n0 c args w1) := fun w1 h1 => hst0.below h1
 have hdirH : Hid (∀ w1, RRSt w lb s a n0 c args w1 -> Calls Tryz.prog 55 #[.string (str s), .slice a n0 c] w1 fun e w' => Below w1.heap.size w1 w' /\ ThOut w' (.ok t) e) := fun w1 h1 => hdir w1 (rargs_mono h1.ins h1.bel.size (Nat.le_refl _))
 clear hst0 hdir hA hnm hf hs0
 go_enter Tryz.func29, Tryz.ntmps29
 go_upto_region 13 with (first | (go_at_call 53; (with_reducible refine (hfind.out _).mono ?_); rintro e w1 ⟨rfl, hb1⟩; have hS1 := Hid.intro (hst.out w1 hb1); have l1 := (cell_blockT hS1.out.line 1).trans rfl; have l2 := (cell_blockT hS1.out.line 2).trans rfl) | (go_at_call 55; (with_reducible refine (hdirH.out w1 hS1.out).mono ?_); rintro e w2 ⟨hb2, vi, va, n, vc, rfl, hit, hn, htm⟩; obtain ⟨ai, ni, ci, rfl⟩ := lie_sliceG hit; replace hit := Hid.intro hit; replace hn := Hid.intro hn; replace htm := Hid.intro htm))
 all_goals first | omega | skip
 have hS2 := (hS1.out.below hb2).below (below_alloc w2 (.cells #[.int .i64 t.kind, .slice ai ni ci, .string (str t.name), .slice va n vc, .int .u32 t.e.const, .int .i64 t.sec] 38))
 have hrow := heap_alloc_new w2 (.cells #[.int .i64 t.kind, .slice ai ni ci, .string (str t.name), .slice va n vc, .int .u32 t.e.const, .int .i64 t.sec] 38)
 have hit3 := hit.out.below (below_alloc w2 (.cells #[.int .i64 t.kind, .slice ai ni ci, .string (str t.name), .slice va n vc, .int .u32 t.e.const, .int .i64 t.sec] 38))
 have htm3 := htm.out.below (below_alloc w2 (.cells #[.int .i64 t.kind, .slice ai ni ci, .string (str t.name), .slice va n vc, .int .u32 t.e.const, .int .i64 t.sec] 38)) (Nat.le_refl _)
 obtain ⟨p, hp⟩ : ∃ p, p = w2.heap.size := ⟨_, rfl⟩
 rw [<- hp] at hrow ⊢
 generalize (w2.alloc (.cells #[.int .i64 t.kind, .slice ai ni ci, .string (str t.name), .slice va n vc, .int .u32 t.e.const, .int .i64 t.sec] 38)) = w3 at hS2 hrow hit3 htm3 ⊢
 clear l1 l2 hb1 hb2 hS1 hst hdirH hfind hp hit htm
 have hl2 := hS2.line
 replace hS2 := Hid.intro hS2
 replace hit3 := Hid.intro hit3
 replace htm3 := Hid.intro htm3
 have l1 := (cell_blockT hl2 1).trans rfl
 clear hl2
 clear hrow
 obtain ⟨r0, r1, r2, r3, r4, r5⟩ := six_read hS2.out.res
 have rf := fun j => frozen_of_row w3 (w.heap.size + 1) j _ 38 hS2.out.res
 go_wp2
 all_goals first | omega | skip
 have hsz := hS2.out.bel.size
 obtain ⟨s1, s2⟩ := six_setT hS2.out.res (.int .i64 0) (.slice none 0 0) (.string ⟨#[]⟩) (.slice none 0 0) (.int .u32 0) (.int .i64 0)
 have hB9 := (hS2.out.bel).grown s2 (by omega) (fun j hj => by cases hj; omega)
 generalize ((((((w3.setCell ⟨w.heap.size + 1, 0, none⟩ (.int .i64 0)).setCell ⟨w.heap.size + 1, 1, none⟩ (.slice none 0 0)).setCell ⟨w.heap.size + 1, 2, none⟩ (.string ⟨#[]⟩)).setCell ⟨w.heap.size + 1, 3, none⟩ (.slice none 0 0)).setCell ⟨w.heap.size + 1, 4, none⟩ (.int .u32 0)).setCell ⟨w.heap.size + 1, 5, none⟩ (.int .i64 0)) = w9 at s1 s2 hB9 ⊢
 obtain ⟨k0, k1, k2, k3, k4, k5⟩ := six_read s1
 refine bodyPost_ret (by simp [results, Tryz.results29, go_sem, k0, k1, k2, k3, k4, k5]; try rfl) rfl ?_
 exact ⟨hB9, rfl⟩
set_option maxHeartbeats 1000000 in
theorem refDir_wordOk (lb s : List UInt8) (hs0 : s ≠ []) (hf : findN s = 0) (a : Option Addr) (n0 c : Nat) (args : List (List Tok)) (sec : Int) (w : World) (hA : RArgsIn w.heap.size w a args) (t : Thg) (dP : ((str s).toList == [112, 111, 111, 108]) = false) (dB : ((str s).toList == [98, 121, 116, 101]) = false) (dW : ((str s).toList == [119, 111, 114, 100]) = true) (hsec : sec = 1)
  (hdir : ∀ w1, RArgsIn w1.heap.size w1 a args -> Calls Tryz.prog 55 #[.string (str s), .slice a n0 c] w1 fun e w' => Below w1.heap.size w1 w' /\ ThOut w' (.ok t) e) :
  Calls Tryz.prog 29 #[.agg #[.string (str lb), .string (str s), .slice a n0 c], .int .i64 sec] w fun e w' => Below w.heap.size w w' /\ ThOut w' (.ok t) e := by
 have hsc : (sec == 1) = true := by simp [hsec]
 clear hsec
 have hne : ((str s).toList == []) = false := by rw [str_toList]; exact beq_false_of_ne hs0
 have hnm : nm (str s) = s := by simp [nm, str]
 have hfind := fun w1 => refFind_any (str s) w1
 rw [hnm, hf] at hfind
 replace hfind := Hid.intro hfind
 have hst0 := rrst_new hA lb s n0 c
 have hst : Hid (∀ w1, Below ((w.alloc (.cells #[.string (str lb), .string (str s), .slice a n0 c] 71)).alloc (.cells zero6 38)).heap.size ((w.alloc (.cells #[.string (str lb), .string (str s), .slice a n0 c] 71)).alloc (.cells zero6 38)) w1 -> RRSt w lb s a n0 c args w1) := fun w1 h1 => hst0.below h1
 have hdirH : Hid (∀ w1, RRSt w lb s a n0 c args w1 -> Calls Tryz.prog 55 #[.string (str s), .slice a n0 c] w1 fun e w' => Below w1.heap.size w1 w' /\ ThOut w' (.ok t) e) := fun w1 h1 => hdir w1 (rargs_mono h1.ins h1.bel.size (Nat.le_refl _))
 clear hst0 hdir hA hnm hf hs0
 go_enter Tryz.func29, Tryz.ntmps29
 go_upto_region 13 with (first | (go_at_call 53; (with_reducible refine (hfind.out _).mono ?_); rintro e w1 ⟨rfl, hb1⟩; have hS1 := Hid.intro (hst.out w1 hb1); have l1 := (cell_blockT hS1.out.line 1).trans rfl; have l2 := (cell_blockT hS1.out.line 2).trans rfl) | (go_at_call 55; (with_reducible refine (hdirH.out w1 hS1.out).mono ?_); rintro e w2 ⟨hb2, vi, va, n, vc, rfl, hit, hn, htm⟩; obtain ⟨ai, ni, ci, rfl⟩ := lie_sliceG hit; replace hit := Hid.intro hit; replace hn := Hid.intro hn; replace htm := Hid.intro htm))
 all_goals first | omega | skip
 have hS2 := (hS1.out.below hb2).below (below_alloc w2 (.cells #[.int .i64 t.kind, .slice ai ni ci, .string (str t.name), .slice va n vc, .int .u32 t.e.const, .int .i64 t.sec] 38))
 have hrow := heap_alloc_new w2 (.cells #[.int .i64 t.kind, .slice ai ni ci, .string (str t.name), .slice va n vc, .int .u32 t.e.const, .int .i64 t.sec] 38)
 have hit3 := hit.out.below (below_alloc w2 (.cells #[.int .i64 t.kind, .slice ai ni ci, .string (str t.name), .slice va n vc, .int .u32 t.e.const, .int .i64 t.sec] 38))
 have htm3 := htm.out.below (below_alloc w2 (.cells #[.int .i64 t.kind, .slice ai ni ci, .string (str t.name), .slice va n vc, .int .u32 t.e.const, .int .i64 t.sec] 38)) (Nat.le_refl _)
 obtain ⟨p, hp⟩ : ∃ p, p = w2.heap.size := ⟨_, rfl⟩
 rw [<- hp] at hrow ⊢
 generalize (w2.alloc (.cells #[.int .i64 t.kind, .slice ai ni ci, .string (str t.name), .slice va n vc, .int .u32 t.e.const, .int .i64 t.sec] 38)) = w3 at hS2 hrow hit3 htm3 ⊢
 clear l1 l2 hb1 hb2 hS1 hst hdirH hfind hp hit htm
 have hl2 := hS2.line
 replace hS2 := Hid.intro hS2
 replace hit3 := Hid.intro hit3
 replace htm3 := Hid.intro htm3
 have l1 := (cell_blockT hl2 1).trans rfl
 clear hl2
 have u0 := (cell_blockT hrow 0).trans rfl
 have u1 := (cell_blockT hrow 1).trans rfl
 have u2 := (cell_blockT hrow 2).trans rfl
 have u3 := (cell_blockT hrow 3).trans rfl
 have u4 := (cell_blockT hrow 4).trans rfl
 have u5 := (cell_blockT hrow 5).trans rfl
 obtain ⟨r0, r1, r2, r3, r4, r5⟩ := six_read hS2.out.res
 have rf := fun j => frozen_of_row w3 (w.heap.size + 1) j _ 38 hS2.out.res
 clear hrow
 go_wp2
 all_goals first | omega | skip
 have hsz := hS2.out.bel.size
 obtain ⟨s1, s2⟩ := six_setT hS2.out.res (.int .i64 t.kind) (.slice ai ni ci) (.string (str t.name)) (.slice va n vc) (.int .u32 t.e.const) (.int .i64 t.sec)
 have hit9 := items_resT hit3.out hS2.out.res s2
 have htm9 := tmLies_resT htm3.out hS2.out.res s2
 have hB9 := (hS2.out.bel).grown s2 (by omega) (fun j hj => by cases hj; omega)
 generalize ((((((w3.setCell ⟨w.heap.size + 1, 0, none⟩ (.int .i64 t.kind)).setCell ⟨w.heap.size + 1, 1, none⟩ (.slice ai ni ci)).setCell ⟨w.heap.size + 1, 2, none⟩ (.string (str t.name))).setCell ⟨w.heap.size + 1, 3, none⟩ (.slice va n vc)).setCell ⟨w.heap.size + 1, 4, none⟩ (.int .u32 t.e.const)).setCell ⟨w.heap.size + 1, 5, none⟩ (.int .i64 t.sec)) = w9 at s1 s2 hB9 hit9 htm9 ⊢
 obtain ⟨k0, k1, k2, k3, k4, k5⟩ := six_read s1
 refine bodyPost_ret (by simp [results, Tryz.results29, go_sem, k0, k1, k2, k3, k4, k5]; try rfl) rfl ?_
 exact ⟨hB9, _, va, n, vc, rfl, hit9, hn.out, htm9⟩
set_option maxHeartbeats 1000000 in
theorem refDir_spaceBad (lb s : List UInt8) (hs0 : s ≠ []) (hf : findN s = 0) (a : Option Addr) (n0 c : Nat) (args : List (List Tok)) (sec : Int) (w : World) (hA : RArgsIn w.heap.size w a args) (t : Thg) (dP : ((str s).toList == [112, 111, 111, 108]) = false) (dB : ((str s).toList == [98, 121, 116, 101]) = false) (dW : ((str s).toList == [119, 111, 114, 100]) = false) (dS : ((str s).toList == [115, 112, 97, 99, 101]) = true) (hsec : sec ≠ 1)
  (hdir : ∀ w1, RArgsIn w1.heap.size w1 a args -> Calls Tryz.prog 55 #[.string (str s), .slice a n0 c] w1 fun e w' => Below w1.heap.size w1 w' /\ ThOut w' (.ok t) e) :
  Calls Tryz.prog 29 #[.agg #[.string (str lb), .string (str s), .slice a n0 c], .int .i64 sec] w fun e w' => Below w.heap.size w w' /\ ThOut w' (.error 21) e := by
 have hsc : (sec == 1) = false := by simp [hsec]
 clear hsec
 have hne : ((str s).toList == []) = false := by rw [str_toList]; exact beq_false_of_ne hs0
 have hnm : nm (str s) = s := by simp [nm, str]
 have hfind := fun w1 => refFind_any (str s) w1
 rw [hnm, hf] at hfind
 replace hfind := Hid.intro hfind
 have hst0 := rrst_new hA lb s n0 c
 have hst : Hid (∀ w1, Below ((w.alloc (.cells #[.string (str lb), .string (str s), .slice a n0 c] 71)).alloc (.cells zero6 38)).heap.size ((w.alloc (.cells #[.string (str lb), .string (str s), .slice a n0 c] 71)).alloc (.cells zero6 38)) w1 -> RRSt w lb s a n0 c args w1) := fun w1 h1 => hst0.below h1
 have hdirH : Hid (∀ w1, RRSt w lb s a n0 c args w1 -> Calls Tryz.prog 55 #[.string (str s), .slice a n0 c] w1 fun e w' => Below w1.heap.size w1 w' /\ ThOut w' (.ok t) e) := fun w1 h1 => hdir w1 (rargs_mono h1.ins h1.bel.size (Nat.le_refl _))
 clear hst0 hdir hA hnm hf hs0
 go_enter Tryz.func29, Tryz.ntmps29
 go_upto_region 13 with (first | (go_at_call 53; (with_reducible refine (hfind.out _).mono ?_); rintro e w1 ⟨rfl, hb1⟩; have hS1 := Hid.intro (hst.out w1 hb1); have l1 := (cell_blockT hS1.out.line 1).trans rfl; have l2 := (cell_blockT hS1.out.line 2).trans rfl) | (go_at_call 55; (with_reducible refine (hdirH.out w1 hS1.out).mono ?_); rintro e w2 ⟨hb2, vi, va, n, vc, rfl, hit, hn, htm⟩; obtain ⟨ai, ni, ci, rfl⟩ := lie_sliceG hit; replace hit := Hid.intro hit; replace hn := Hid.intro hn; replace htm := Hid.intro htm))
 all_goals first | omega | skip
 have hS2 := (hS1.out.below hb2).below (below_alloc w2 (.cells #[.int .i64 t.kind, .slice ai ni ci, .string (str t.name), .slice va n vc, .int .u32 t.e.const, .int .i64 t.sec] 38))
 have hrow := heap_alloc_new w2 (.cells #[.int .i64 t.kind, .slice ai ni ci, .string (str t.name), .slice va n vc, .int .u32 t.e.const, .int .i64 t.sec] 38)
 have hit3 := hit.out.below (below_alloc w2 (.cells #[.int .i64 t.kind, .slice ai ni ci, .string (str t.name), .slice va n vc, .int .u32 t.e.const, .int .i64 t.sec] 38))
 have htm3 := htm.out.below (below_alloc w2 (.cells #[.int .i64 t.kind, .slice ai ni ci, .string (str t.name), .slice va n vc, .int .u32 t.e.const, .int .i64 t.sec] 38)) (Nat.le_refl _)
 obtain ⟨p, hp⟩ : ∃ p, p = w2.heap.size := ⟨_, rfl⟩
 rw [<- hp] at hrow ⊢
 generalize (w2.alloc (.cells #[.int .i64 t.kind, .slice ai ni ci, .string (str t.name), .slice va n vc, .int .u32 t.e.const, .int .i64 t.sec] 38)) = w3 at hS2 hrow hit3 htm3 ⊢
 clear l1 l2 hb1 hb2 hS1 hst hdirH hfind hp hit htm
 have hl2 := hS2.line
 replace hS2 := Hid.intro hS2
 replace hit3 := Hid.intro hit3
 replace htm3 := Hid.intro htm3
 have l1 := (cell_blockT hl2 1).trans rfl
 clear hl2
 clear hrow
 obtain ⟨r0, r1, r2, r3, r4, r5⟩ := six_read hS2.out.res
 have rf := fun j => frozen_of_row w3 (w.heap.size + 1) j _ 38 hS2.out.res
 go_wp2
 all_goals first | omega | skip
 have hsz := hS2.out.bel.size
 obtain ⟨s1, s2⟩ := six_setT hS2.out.res (.int .i64 0) (.slice none 0 0) (.string ⟨#[]⟩) (.slice none 0 0) (.int .u32 0) (.int .i64 0)
 have hB9 := (hS2.out.bel).grown s2 (by omega) (fun j hj => by cases hj; omega)
 generalize ((((((w3.setCell ⟨w.heap.size + 1, 0, none⟩ (.int .i64 0)).setCell ⟨w.heap.size + 1, 1, none⟩ (.slice none 0 0)).setCell ⟨w.heap.size + 1, 2, none⟩ (.string ⟨#[]⟩)).setCell ⟨w.heap.size + 1, 3, none⟩ (.slice none 0 0)).setCell ⟨w.heap.size + 1, 4, none⟩ (.int .u32 0)).setCell ⟨w.heap.size + 1, 5, none⟩ (.int .i64 0)) = w9 at s1 s2 hB9 ⊢
 obtain ⟨k0, k1, k2, k3, k4, k5⟩ := six_read s1
 refine bodyPost_ret (by simp [results, Tryz.results29, go_sem, k0, k1, k2, k3, k4, k5]; try rfl) rfl ?_
 exact ⟨hB9, rfl⟩
set_option maxHeartbeats 1000000 in
theorem refDir_spaceOk (lb s : List UInt8) (hs0 : s ≠ []) (hf : findN s = 0) (a : Option Addr) (n0 c : Nat) (args : List (List Tok)) (sec : Int) (w : World) (hA : RArgsIn w.heap.size w a args) (t : Thg) (dP : ((str s).toList == [112, 111, 111, 108]) = false) (dB : ((str s).toList == [98, 121, 116, 101]) = false) (dW : ((str s).toList == [119, 111, 114, 100]) = false) (dS : ((str s).toList == [115, 112, 97, 99, 101]) = true) (hsec : sec = 1)
  (hdir : ∀ w1, RArgsIn w1.heap.size w1 a args -> Calls Tryz.prog 55 #[.string (str s), .slice a n0 c] w1 fun e w' => Below w1.heap.size w1 w' /\ ThOut w' (.ok t) e) :
  Calls Tryz.prog 29 #[.agg #[.string (str lb), .string (str s), .slice a n0 c], .int .i64 sec] w fun e w' => Below w.heap.size w w' /\ ThOut w' (.ok t) e := by
 have hsc : (sec == 1) = true := by simp [hsec]
 clear hsec
 have hne : ((str s).toList == []) = false := by rw [str_toList]; exact beq_false_of_ne hs0
 have hnm : nm (str s) = s := by simp [nm, str]
 have hfind := fun w1 => refFind_any (str s) w1
 rw [hnm, hf] at hfind
 replace hfind := Hid.intro hfind
 have hst0 := rrst_new hA lb s n0 c
 have hst : Hid (∀ w1, Below ((w.alloc (.cells #[.string (str lb), .string (str s), .slice a n0 c] 71)).alloc (.cells zero6 38)).heap.size ((w.alloc (.cells #[.string (str lb), .string (str s), .slice a n0 c] 71)).alloc (.cells zero6 38)) w1 -> RRSt w lb s a n0 c args w1) := fun w1 h1 => hst0.below h1
 have hdirH : Hid (∀ w1, RRSt w lb s a n0 c args w1 -> Calls Tryz.prog 55 #[.string (str s), .slice a n0 c] w1 fun e w' => Below w1.heap.size w1 w' /\ ThOut w' (.ok t) e) := fun w1 h1 => hdir w1 (rargs_mono h1.ins h1.bel.size (Nat.le_refl _))
 clear hst0 hdir hA hnm hf hs0
 go_enter Tryz.func29, Tryz.ntmps29
 go_upto_region 13 with (first | (go_at_call 53; (with_reducible refine (hfind.out _).mono ?_); rintro e w1 ⟨rfl, hb1⟩; have hS1 := Hid.intro (hst.out w1 hb1); have l1 := (cell_blockT hS1.out.line 1).trans rfl; have l2 := (cell_blockT hS1.out.line 2).trans rfl) | (go_at_call 55; (with_reducible refine (hdirH.out w1 hS1.out).mono ?_); rintro e w2 ⟨hb2, vi, va, n, vc, rfl, hit, hn, htm⟩; obtain ⟨ai, ni, ci, rfl⟩ := lie_sliceG hit; replace hit := Hid.intro hit; replace hn := Hid.intro hn; replace htm := Hid.intro htm))
 all_goals first | omega | skip
 have hS2 := (hS1.out.below hb2).below (below_alloc w2 (.cells #[.int .i64 t.kind, .slice ai ni ci, .string (str t.name), .slice va n vc, .int .u32 t.e.const, .int .i64 t.sec] 38))
 have hrow := heap_alloc_new w2 (.cells #[.int .i64 t.kind, .slice ai ni ci, .string (str t.name), .slice va n vc, .int .u32 t.e.const, .int .i64 t.sec] 38)
 have hit3 := hit.out.below (below_alloc w2 (.cells #[.int .i64 t.kind, .slice ai ni ci, .string (str t.name), .slice va n vc, .int .u32 t.e.const, .int .i64 t.sec] 38))
 have htm3 := htm.out.below (below_alloc w2 (.cells #[.int .i64 t.kind, .slice ai ni ci, .string (str t.name), .slice va n vc, .int .u32 t.e.const, .int .i64 t.sec] 38)) (Nat.le_refl _)
 obtain ⟨p, hp⟩ : ∃ p, p = w2.heap.size := ⟨_, rfl⟩
 rw [<- hp] at hrow ⊢
 generalize (w2.alloc (.cells #[.int .i64 t.kind, .slice ai ni ci, .string (str t.name), .slice va n vc, .int .u32 t.e.const, .int .i64 t.sec] 38)) = w3 at hS2 hrow hit3 htm3 ⊢
 clear l1 l2 hb1 hb2 hS1 hst hdirH hfind hp hit htm
 have hl2 := hS2.line
 replace hS2 := Hid.intro hS2
 replace hit3 := Hid.intro hit3
 replace htm3 := Hid.intro htm3
 have l1 := (cell_blockT hl2 1).trans rfl
 clear hl2
 have u0 := (cell_blockT hrow 0).trans rfl
 have u1 := (cell_blockT hrow 1).trans rfl
 have u2 := (cell_blockT hrow 2).trans rfl
 have u3 := (cell_blockT hrow 3).trans rfl
 have u4 := (cell_blockT hrow 4).trans rfl
 have u5 := (cell_blockT hrow 5).trans rfl
 obtain ⟨r0, r1, r2, r3, r4, r5⟩ := six_read hS2.out.res
 have rf := fun j => frozen_of_row w3 (w.heap.size + 1) j _ 38 hS2.out.res
 clear hrow
 go_wp2
 all_goals first | omega | skip
 have hsz := hS2.out.bel.size
 obtain ⟨s1, s2⟩ := six_setT hS2.out.res (.int .i64 t.kind) (.slice ai ni ci) (.string (str t.name)) (.slice va n vc) (.int .u32 t.e.const) (.int .i64 t.sec)
 have hit9 := items_resT hit3.out hS2.out.res s2
 have htm9 := tmLies_resT htm3.out hS2.out.res s2
 have hB9 := (hS2.out.bel).grown s2 (by omega) (fun j hj => by cases hj; omega)
 generalize ((((((w3.setCell ⟨w.heap.size + 1, 0, none⟩ (.int .i64 t.kind)).setCell ⟨w.heap.size + 1, 1, none⟩ (.slice ai ni ci)).setCell ⟨w.heap.size + 1, 2, none⟩ (.string (str t.name))).setCell ⟨w.heap.size + 1, 3, none⟩ (.slice va n vc)).setCell ⟨w.heap.size + 1, 4, none⟩ (.int .u32 t.e.const)).setCell ⟨w.heap.size + 1, 5, none⟩ (.int .i64 t.sec)) = w9 at s1 s2 hB9 hit9 htm9 ⊢
 obtain ⟨k0, k1, k2, k3, k4, k5⟩ := six_read s1
 refine bodyPost_ret (by simp [results, Tryz.results29, go_sem, k0, k1, k2, k3, k4, k5]; try rfl) rfl ?_
 exact ⟨hB9, _, va, n, vc, rfl, hit9, hn.out, htm9⟩
theorem refRead_nil (lb : List UInt8) (a : Option Addr) (n0 c : Nat) (sec : Int) (w : World) :
  Calls Tryz.prog 29 #[.agg #[.string (str lb), .string (str []), .slice a n0 c], .int .i64 sec] w fun e w' => Below w.heap.size w w' /\ ThOut w' (.ok thgE) e := by
 have hne : ((str []).toList == []) = true := by rw [str_toList]; rfl
 generalize str [] = S at hne ⊢
 go_enter Tryz.func29, Tryz.ntmps29
 go_wp2
 all_goals first | omega | skip
 have hB : Below w.heap.size w ((w.alloc (.cells #[.string (str lb), .string S, .slice a n0 c] 71)).alloc (.cells #[.int .i64 0, .slice none 0 0, .string ⟨#[]⟩, .slice none 0 0, .int .u32 0, .int .i64 0] 38)) := (below_alloc w _).alloc (by simp) _
 have hs1 : (w.alloc (.cells #[.string (str lb), .string S, .slice a n0 c] 71)).heap.size = w.heap.size + 1 := by simp
 have s1 := heap_alloc_new (w.alloc (.cells #[.string (str lb), .string S, .slice a n0 c] 71)) (.cells #[.int .i64 0, .slice none 0 0, .string ⟨#[]⟩, .slice none 0 0, .int .u32 0, .int .i64 0] 38)
 rw [hs1] at s1
 generalize ((w.alloc (.cells #[.string (str lb), .string S, .slice a n0 c] 71)).alloc (.cells #[.int .i64 0, .slice none 0 0, .string ⟨#[]⟩, .slice none 0 0, .int .u32 0, .int .i64 0] 38)) = w9 at hB s1 ⊢
 obtain ⟨k0, k1, k2, k3, k4, k5⟩ := six_read s1
 refine bodyPost_ret (by simp [results, Tryz.results29, go_sem, k0, k1, k2, k3, k4, k5]; try rfl) rfl ?_
 exact ⟨hB, .slice none 0 0, none, 0, 0, rfl, .inl ⟨rfl, rfl⟩, rfl, TmLies.nil _ _⟩
end Go.Proofs.YtlkmegchaeokgaaGreatDoor
/- The document's directive. -/
namespace Go.Proofs.YtlkmegchaeokgaaGreatDoor
open Go.ChangeShapes Go.WideShapes Go.ChangeAt Go.RowKit
set_option linter.unusedVariables false
set_option maxRecDepth 100000
set_option maxHeartbeats 1000000 in
theorem ddir_section (a : Option Addr) (c : Nat) (x0 : List Tok) (w : World) (hA : RArgsIn w.heap.size w a [x0]) :
  Calls Tryz.prog 55 #[.string (str sSection), .slice a 1 c] w fun e w' => Below w.heap.size w w' /\ ThOut w' (secF x0) e := by
 generalize hS : str sSection = S
 obtain ⟨d0, d1, d2, d3, d4, d5, d6, d7⟩ := dfSection hS
 clear hS
 have hA0 := drst_new hA
 obtain ⟨G, hG⟩ : ∃ G, a = some ⟨G, 0, none⟩ := by
  rcases hA.outer with h | ⟨G, h, _⟩
  ·cases h
  ·exact ⟨G, h⟩
 subst hG
 obtain ⟨a', c', hcell, hT, _⟩ := rargs_at hA0.ins (i := 0) (xs := x0) rfl
 obtain ⟨R0, hR0⟩ : ∃ R0, secF x0 = R0 := ⟨_, rfl⟩
 rw [hR0]
 clear hA
 replace hA0 := Hid.intro hA0
 by_cases h1 : x0.length = 1
 ·match x0, h1, hT, hR0, hA0, hcell with
  | [t], _, hT, hR0, hA0, hcell =>
   obtain ⟨g, o, rfl, q0, q1⟩ := hT.head2
   clear hT
   replace hcell : (w.alloc (.cells zero6 38)).cell? ⟨G, 0, none⟩ = some (.slice (some ⟨g, o, none⟩) 1 c') := hcell
   by_cases hk : t.kind = 1
   ·rw [hk] at q0
    have hw : wordF [t] = t.text := by simp [wordF, hk]
    unfold secF at hR0
    rw [hw] at hR0
    by_cases ht : t.text = sText
    ·rw [if_pos ht] at hR0
     have hO : Hid (R0 = .ok ⟨5, [], [], linE, 0⟩) := hR0.symm
     have e1 : ((str t.text).toList == [116, 101, 120, 116]) = true := by rw [str_toList, ht]; rfl
     have e2 : ((str t.text).toList == [100, 97, 116, 97]) = false := by rw [str_toList, ht]; rfl
     generalize str t.text = TX at q1 e1 e2
     clear hR0 hw hk ht
     have hcellA := fun ob => ((below_alloc (w.alloc (.cells zero6 38)) ob).cell (p := ⟨G, 0, none⟩) (World.block_lt_of_cell? (w.alloc (.cells zero6 38)) _ hcell)).trans hcell
     have q1A := fun ob => ((below_alloc (w.alloc (.cells zero6 38)) ob).cell (p := ⟨g, o + 1, none⟩) (World.block_lt_of_cell? (w.alloc (.cells zero6 38)) _ q1)).trans q1
     go_enter Tryz.func55, Tryz.ntmps55
     go_upto_region 42 with fail
     all_goals first | omega | skip
     have hS1 := Hid.intro (hA0.out.below (below_alloc (w.alloc (.cells zero6 38)) (.cells #[.int .i64 5, .slice none 0 0, .string ⟨#[]⟩, .slice none 0 0, .int .u32 0, .int .i64 0] 38)))
     have hrow := heap_alloc_new (w.alloc (.cells zero6 38)) (.cells #[.int .i64 5, .slice none 0 0, .string ⟨#[]⟩, .slice none 0 0, .int .u32 0, .int .i64 0] 38)
     have hp : (w.alloc (.cells zero6 38)).heap.size = w.heap.size + 1 := by simp
     rw [hp] at hrow
     clear hcell hA0 q0 q1 hp hcellA q1A
     generalize ((w.alloc (.cells zero6 38)).alloc (.cells #[.int .i64 5, .slice none 0 0, .string ⟨#[]⟩, .slice none 0 0, .int .u32 0, .int .i64 0] 38)) = w1 at hS1 hrow ⊢
     have u0 := (cell_blockT hrow 0).trans rfl
     have u1 := (cell_blockT hrow 1).trans rfl
     have u2 := (cell_blockT hrow 2).trans rfl
     have u3 := (cell_blockT hrow 3).trans rfl
     have u4 := (cell_blockT hrow 4).trans rfl
     have u5 := (cell_blockT hrow 5).trans rfl
     obtain ⟨r0, r1, r2, r3, r4, r5⟩ := six_read hS1.out.res
     have rf := fun j => frozen_of_row w1 w.heap.size j _ 38 hS1.out.res
     go_wp2
     all_goals first | omega | skip
     have hsz := hS1.out.bel.size
     obtain ⟨s1, s2⟩ := six_setT hS1.out.res (.int .i64 5) (.slice none 0 0) (.string ⟨#[]⟩) (.slice none 0 0) (.int .u32 0) (.int .i64 0)
     have hB9 := (hS1.out.bel).grown s2 (by omega) (fun j hj => by cases hj; omega)
     generalize ((((((w1.setCell ⟨w.heap.size, 0, none⟩ (.int .i64 5)).setCell ⟨w.heap.size, 1, none⟩ (.slice none 0 0)).setCell ⟨w.heap.size, 2, none⟩ (.string ⟨#[]⟩)).setCell ⟨w.heap.size, 3, none⟩ (.slice none 0 0)).setCell ⟨w.heap.size, 4, none⟩ (.int .u32 0)).setCell ⟨w.heap.size, 5, none⟩ (.int .i64 0)) = w9 at s1 s2 hB9 ⊢
     obtain ⟨k0, k1, k2, k3, k4, k5⟩ := six_read s1
     refine bodyPost_ret (by simp [results, Tryz.results55, go_sem, k0, k1, k2, k3, k4, k5]; try rfl) rfl ?_
     rw [hO.out]
     exact ⟨hB9, .slice none 0 0, none, 0, 0, rfl, .inl ⟨rfl, rfl⟩, rfl, TmLies.nil _ _⟩
    ·rw [if_neg ht] at hR0
     have e1 : ((str t.text).toList == [116, 101, 120, 116]) = false := by rw [str_toList]; exact beq_false_of_ne ht
     by_cases hd : t.text = sData
     ·rw [if_pos hd] at hR0
      have hO : Hid (R0 = .ok ⟨5, [], [], linE, 1⟩) := hR0.symm
      have e2 : ((str t.text).toList == [100, 97, 116, 97]) = true := by rw [str_toList, hd]; rfl
      generalize str t.text = TX at q1 e1 e2
      clear hR0 hw hk ht hd
      have hcellA := fun ob => ((below_alloc (w.alloc (.cells zero6 38)) ob).cell (p := ⟨G, 0, none⟩) (World.block_lt_of_cell? (w.alloc (.cells zero6 38)) _ hcell)).trans hcell
      have q1A := fun ob => ((below_alloc (w.alloc (.cells zero6 38)) ob).cell (p := ⟨g, o + 1, none⟩) (World.block_lt_of_cell? (w.alloc (.cells zero6 38)) _ q1)).trans q1
      go_enter Tryz.func55, Tryz.ntmps55
      go_upto_region 42 with fail
      all_goals first | omega | skip
      have hS1 := Hid.intro (hA0.out.below (below_alloc (w.alloc (.cells zero6 38)) (.cells #[.int .i64 5, .slice none 0 0, .string ⟨#[]⟩, .slice none 0 0, .int .u32 0, .int .i64 1] 38)))
      have hrow := heap_alloc_new (w.alloc (.cells zero6 38)) (.cells #[.int .i64 5, .slice none 0 0, .string ⟨#[]⟩, .slice none 0 0, .int .u32 0, .int .i64 1] 38)
      have hp : (w.alloc (.cells zero6 38)).heap.size = w.heap.size + 1 := by simp
      rw [hp] at hrow
      clear hcell hA0 q0 q1 hp hcellA q1A
      generalize ((w.alloc (.cells zero6 38)).alloc (.cells #[.int .i64 5, .slice none 0 0, .string ⟨#[]⟩, .slice none 0 0, .int .u32 0, .int .i64 1] 38)) = w1 at hS1 hrow ⊢
      have u0 := (cell_blockT hrow 0).trans rfl
      have u1 := (cell_blockT hrow 1).trans rfl
      have u2 := (cell_blockT hrow 2).trans rfl
      have u3 := (cell_blockT hrow 3).trans rfl
      have u4 := (cell_blockT hrow 4).trans rfl
      have u5 := (cell_blockT hrow 5).trans rfl
      obtain ⟨r0, r1, r2, r3, r4, r5⟩ := six_read hS1.out.res
      have rf := fun j => frozen_of_row w1 w.heap.size j _ 38 hS1.out.res
      go_wp2
      all_goals first | omega | skip
      have hsz := hS1.out.bel.size
      obtain ⟨s1, s2⟩ := six_setT hS1.out.res (.int .i64 5) (.slice none 0 0) (.string ⟨#[]⟩) (.slice none 0 0) (.int .u32 0) (.int .i64 1)
      have hB9 := (hS1.out.bel).grown s2 (by omega) (fun j hj => by cases hj; omega)
      generalize ((((((w1.setCell ⟨w.heap.size, 0, none⟩ (.int .i64 5)).setCell ⟨w.heap.size, 1, none⟩ (.slice none 0 0)).setCell ⟨w.heap.size, 2, none⟩ (.string ⟨#[]⟩)).setCell ⟨w.heap.size, 3, none⟩ (.slice none 0 0)).setCell ⟨w.heap.size, 4, none⟩ (.int .u32 0)).setCell ⟨w.heap.size, 5, none⟩ (.int .i64 1)) = w9 at s1 s2 hB9 ⊢
      obtain ⟨k0, k1, k2, k3, k4, k5⟩ := six_read s1
      refine bodyPost_ret (by simp [results, Tryz.results55, go_sem, k0, k1, k2, k3, k4, k5]; try rfl) rfl ?_
      rw [hO.out]
      exact ⟨hB9, .slice none 0 0, none, 0, 0, rfl, .inl ⟨rfl, rfl⟩, rfl, TmLies.nil _ _⟩
     ·rw [if_neg hd] at hR0
      have hO : Hid (R0 = .error 20) := hR0.symm
      have e2 : ((str t.text).toList == [100, 97, 116, 97]) = false := by rw [str_toList]; exact beq_false_of_ne hd
      generalize str t.text = TX at q1 e1 e2
      clear hR0 hw hk ht hd
      go_enter Tryz.func55, Tryz.ntmps55
      go_upto_region 43 with fail
      all_goals first | omega | skip
      have hS1 := hA0
      clear hcell hA0 q0 q1
      generalize (w.alloc (.cells zero6 38)) = w1 at hS1 ⊢
      obtain ⟨r0, r1, r2, r3, r4, r5⟩ := six_read hS1.out.res
      have rf := fun j => frozen_of_row w1 w.heap.size j _ 38 hS1.out.res
      go_wp2
      all_goals first | omega | skip
      have hsz := hS1.out.bel.size
      obtain ⟨s1, s2⟩ := six_setT hS1.out.res (.int .i64 0) (.slice none 0 0) (.string ⟨#[]⟩) (.slice none 0 0) (.int .u32 0) (.int .i64 0)
      have hB9 := (hS1.out.bel).grown s2 (by omega) (fun j hj => by cases hj; omega)
      generalize ((((((w1.setCell ⟨w.heap.size, 0, none⟩ (.int .i64 0)).setCell ⟨w.heap.size, 1, none⟩ (.slice none 0 0)).setCell ⟨w.heap.size, 2, none⟩ (.string ⟨#[]⟩)).setCell ⟨w.heap.size, 3, none⟩ (.slice none 0 0)).setCell ⟨w.heap.size, 4, none⟩ (.int .u32 0)).setCell ⟨w.heap.size, 5, none⟩ (.int .i64 0)) = w9 at s1 s2 hB9 ⊢
      obtain ⟨k0, k1, k2, k3, k4, k5⟩ := six_read s1
      refine bodyPost_ret (by simp [results, Tryz.results55, go_sem, k0, k1, k2, k3, k4, k5]; try rfl) rfl ?_
      rw [hO.out]
      exact ⟨hB9, rfl⟩
   ·have hO : Hid (R0 = .error 20) := by show R0 = _; rw [<- hR0]; unfold secF; rw [show wordF [t] = [] from by simp [wordF, hk]]; rfl
    have hk' : (t.kind == 1) = false := by simp [hk]
    clear hR0
    go_enter Tryz.func55, Tryz.ntmps55
    go_upto_region 43 with fail
    all_goals first | omega | skip
    have hS1 := hA0
    clear hcell hA0 q0 q1
    generalize (w.alloc (.cells zero6 38)) = w1 at hS1 ⊢
    obtain ⟨r0, r1, r2, r3, r4, r5⟩ := six_read hS1.out.res
    have rf := fun j => frozen_of_row w1 w.heap.size j _ 38 hS1.out.res
    go_wp2
    all_goals first | omega | skip
    have hsz := hS1.out.bel.size
    obtain ⟨s1, s2⟩ := six_setT hS1.out.res (.int .i64 0) (.slice none 0 0) (.string ⟨#[]⟩) (.slice none 0 0) (.int .u32 0) (.int .i64 0)
    have hB9 := (hS1.out.bel).grown s2 (by omega) (fun j hj => by cases hj; omega)
    generalize ((((((w1.setCell ⟨w.heap.size, 0, none⟩ (.int .i64 0)).setCell ⟨w.heap.size, 1, none⟩ (.slice none 0 0)).setCell ⟨w.heap.size, 2, none⟩ (.string ⟨#[]⟩)).setCell ⟨w.heap.size, 3, none⟩ (.slice none 0 0)).setCell ⟨w.heap.size, 4, none⟩ (.int .u32 0)).setCell ⟨w.heap.size, 5, none⟩ (.int .i64 0)) = w9 at s1 s2 hB9 ⊢
    obtain ⟨k0, k1, k2, k3, k4, k5⟩ := six_read s1
    refine bodyPost_ret (by simp [results, Tryz.results55, go_sem, k0, k1, k2, k3, k4, k5]; try rfl) rfl ?_
    rw [hO.out]
    exact ⟨hB9, rfl⟩
 ·have hO : Hid (R0 = .error 20) := by show R0 = _; rw [<- hR0]; unfold secF; rw [wordF_other h1]; rfl
  clear hR0 hT
  generalize x0.length = ln at hcell h1
  have h1' : ¬ ((ln : Int) = 1) := by omega
  go_enter Tryz.func55, Tryz.ntmps55
  go_upto_region 43 with fail
  all_goals first | omega | skip
  have hS1 := hA0
  clear hcell hA0
  generalize (w.alloc (.cells zero6 38)) = w1 at hS1 ⊢
  obtain ⟨r0, r1, r2, r3, r4, r5⟩ := six_read hS1.out.res
  have rf := fun j => frozen_of_row w1 w.heap.size j _ 38 hS1.out.res
  go_wp2
  all_goals first | omega | skip
  have hsz := hS1.out.bel.size
  obtain ⟨s1, s2⟩ := six_setT hS1.out.res (.int .i64 0) (.slice none 0 0) (.string ⟨#[]⟩) (.slice none 0 0) (.int .u32 0) (.int .i64 0)
  have hB9 := (hS1.out.bel).grown s2 (by omega) (fun j hj => by cases hj; omega)
  generalize ((((((w1.setCell ⟨w.heap.size, 0, none⟩ (.int .i64 0)).setCell ⟨w.heap.size, 1, none⟩ (.slice none 0 0)).setCell ⟨w.heap.size, 2, none⟩ (.string ⟨#[]⟩)).setCell ⟨w.heap.size, 3, none⟩ (.slice none 0 0)).setCell ⟨w.heap.size, 4, none⟩ (.int .u32 0)).setCell ⟨w.heap.size, 5, none⟩ (.int .i64 0)) = w9 at s1 s2 hB9 ⊢
  obtain ⟨k0, k1, k2, k3, k4, k5⟩ := six_read s1
  refine bodyPost_ret (by simp [results, Tryz.results55, go_sem, k0, k1, k2, k3, k4, k5]; try rfl) rfl ?_
  rw [hO.out]
  exact ⟨hB9, rfl⟩
end Go.Proofs.YtlkmegchaeokgaaGreatDoor
namespace Go.Proofs.YtlkmegchaeokgaaGreatDoor
open Go.ChangeShapes Go.WideShapes Go.ChangeAt Go.RowKit
set_option linter.unusedVariables false
set_option maxRecDepth 100000
set_option maxHeartbeats 1000000 in
theorem code_len (op : Int) (hop : 1 <= op /\ op <= 43) (a : Option Addr) (n0 c : Nat) (hne : n0 ≠ (wantsF (shapeN op)).length) (w : World) :
  Calls Tryz.prog 54 #[.int .i64 op, .slice a n0 c] w fun e w' => CodeOut w w' (.error 20) e := by
 have hs := shapeN_some hop
 have hsh := Hid.intro (fun w1 => shape_any op w1)
 have har := Hid.intro (fun w1 => refArgs_any (shapeN op) hs w1)
 generalize (wantsF (shapeN op)).length = k at hne har
 generalize shapeN op = S at hsh har
 have hne' : ¬ ((n0 : Int) = (k : Int)) := by omega
 clear hs hop
 go_enter Tryz.func54, Tryz.ntmps54
 go_upto_region 3 with (first | (go_at_call 60; (with_reducible refine (hsh.out _).mono ?_); rintro e w1 ⟨rfl, hb1⟩) | (go_at_call 81; (with_reducible refine (har.out _).mono ?_); rintro e w2 ⟨rfl, hw2⟩; obtain rfl : w1 = w2 := hw2.symm))
 all_goals first | omega | skip
 have hs0 : (w.alloc (.cells (itmCells itmE (.slice none 0 0)) 33)).heap.size = w.heap.size + 1 := by simp
 have hb1' : Below (w.alloc (.cells (itmCells itmE (.slice none 0 0)) 33)).heap.size (w.alloc (.cells (itmCells itmE (.slice none 0 0)) 33)) w1 := hb1
 have hres : w1.heap[w.heap.size]? = some (.cells #[.int .i64 0, .string ⟨#[]⟩, .int .i64 0, .int .i64 0, .int .i64 0, .int .i32 0, .int .i64 0, .slice none 0 0, .int .u32 0, .int .i64 0] 33 (0, 0)) := by rw [hb1'.block _ (by omega)]; exact heap_alloc_new w _
 have hB1 : Below w.heap.size w w1 := (below_alloc w _).trans (hb1'.mono (by omega))
 clear hb1 hb1' hs0
 have q0 := (cell_blockT hres 0).trans rfl
 have q1 := (cell_blockT hres 1).trans rfl
 have q2 := (cell_blockT hres 2).trans rfl
 have q3 := (cell_blockT hres 3).trans rfl
 have q4 := (cell_blockT hres 4).trans rfl
 have q5 := (cell_blockT hres 5).trans rfl
 have q6 := (cell_blockT hres 6).trans rfl
 have q7 := (cell_blockT hres 7).trans rfl
 have q8 := (cell_blockT hres 8).trans rfl
 have q9 := (cell_blockT hres 9).trans rfl
 have qf := fun j => frozen_of_row w1 w.heap.size j _ 33 hres
 replace hres := Hid.intro hres
 go_wp2
 all_goals first | omega | skip
 obtain ⟨s1, s2⟩ := ten_set hres.out (.int .i64 0) (.string ⟨#[]⟩) (.int .i64 0) (.int .i64 0) (.int .i64 0) (.int .i32 0) (.int .i64 0) (.slice none 0 0) (.int .u32 0) (.int .i64 0)
 have hB9 := hB1.grown s2 hB1.size (fun j hj => by cases hj; exact Nat.le_refl _)
 generalize ((((((((((w1.setCell ⟨w.heap.size, 0, none⟩ (.int .i64 0)).setCell ⟨w.heap.size, 1, none⟩ (.string ⟨#[]⟩)).setCell ⟨w.heap.size, 2, none⟩ (.int .i64 0)).setCell ⟨w.heap.size, 3, none⟩ (.int .i64 0)).setCell ⟨w.heap.size, 4, none⟩ (.int .i64 0)).setCell ⟨w.heap.size, 5, none⟩ (.int .i32 0)).setCell ⟨w.heap.size, 6, none⟩ (.int .i64 0)).setCell ⟨w.heap.size, 7, none⟩ (.slice none 0 0)).setCell ⟨w.heap.size, 8, none⟩ (.int .u32 0)).setCell ⟨w.heap.size, 9, none⟩ (.int .i64 0)) = w9 at s1 s2 hB9 ⊢
 have kk := fun j => cell_blockT s1 j
 have k0 := (kk 0).trans rfl
 have k1 := (kk 1).trans rfl
 have k2 := (kk 2).trans rfl
 have k3 := (kk 3).trans rfl
 have k4 := (kk 4).trans rfl
 have k5 := (kk 5).trans rfl
 have k6 := (kk 6).trans rfl
 have k7 := (kk 7).trans rfl
 have k8 := (kk 8).trans rfl
 have k9 := (kk 9).trans rfl
 refine bodyPost_ret (by simp [results, Tryz.results54, go_sem, k0, k1, k2, k3, k4, k5, k6, k7, k8, k9]; try rfl) rfl ?_
 exact ⟨hB9, rfl⟩
theorem code_any (op : Int) (hop : 1 <= op /\ op <= 43) (a : Option Addr) (c : Nat) (args : List (List Tok)) (hl : args.length = (wantsF (shapeN op)).length) (hany : ∀ xs ∈ args, xs ≠ []) (w : World) (hA : RArgsIn w.heap.size w a args) :
  Calls Tryz.prog 54 #[.int .i64 op, .slice a args.length c] w fun e w' => CodeOut w w' (opF (wantsF (shapeN op)) args 0 (opItm op)) e := by
 have hs := shapeN_some hop
 have : shapeN op = 1 ∨ shapeN op = 2 ∨ shapeN op = 3 ∨ shapeN op = 4 ∨ shapeN op = 5 ∨ shapeN op = 6 ∨ shapeN op = 7 ∨ shapeN op = 8 ∨ shapeN op = 9 ∨ shapeN op = 10 ∨ shapeN op = 11 ∨ shapeN op = 12 ∨ shapeN op = 13 := by omega
 rcases this with hS | hS | hS | hS | hS | hS | hS | hS | hS | hS | hS | hS | hS
 all_goals rw [hS] at hl ⊢
 ·obtain rfl : args = [] := List.length_eq_zero_iff.1 hl
  exact code_1 op hop hS a c w hA
 ·obtain ⟨x1, rfl⟩ : ∃ x1, args = [x1] := by match args, hl with | [a], _ => exact ⟨a, rfl⟩
  exact code_2 op hop hS a c x1 w hA
 ·obtain ⟨x1, rfl⟩ : ∃ x1, args = [x1] := by match args, hl with | [a], _ => exact ⟨a, rfl⟩
  exact code_3 op hop hS a c x1 w hA
 ·obtain ⟨x1, x2, rfl⟩ : ∃ x1 x2, args = [x1, x2] := by match args, hl with | [a, b], _ => exact ⟨a, b, rfl⟩
  exact code_4 op hop hS a c x1 x2 w hA
 ·obtain ⟨x1, x2, rfl⟩ : ∃ x1 x2, args = [x1, x2] := by match args, hl with | [a, b], _ => exact ⟨a, b, rfl⟩
  exact code_5 op hop hS a c x1 x2 w hA
 ·obtain ⟨x1, x2, rfl⟩ : ∃ x1 x2, args = [x1, x2] := by match args, hl with | [a, b], _ => exact ⟨a, b, rfl⟩
  exact code_6 op hop hS a c x1 x2 w hA
 ·obtain ⟨x1, x2, x3, rfl⟩ : ∃ x1 x2 x3, args = [x1, x2, x3] := by match args, hl with | [a, b, c], _ => exact ⟨a, b, c, rfl⟩
  exact code_7 op hop hS a c x1 x2 x3 w hA
 ·obtain ⟨x1, x2, rfl⟩ : ∃ x1 x2, args = [x1, x2] := by match args, hl with | [a, b], _ => exact ⟨a, b, rfl⟩
  exact code_8 op hop hS a c x1 x2 w hA
 ·obtain ⟨x1, rfl⟩ : ∃ x1, args = [x1] := by match args, hl with | [a], _ => exact ⟨a, rfl⟩
  exact code_9 op hop hS a c x1 w hA
 ·obtain ⟨x1, x2, rfl⟩ : ∃ x1 x2, args = [x1, x2] := by match args, hl with | [a, b], _ => exact ⟨a, b, rfl⟩
  exact code_10 op hop hS a c x1 x2 w hA
 ·obtain ⟨x1, x2, rfl⟩ : ∃ x1 x2, args = [x1, x2] := by match args, hl with | [a, b], _ => exact ⟨a, b, rfl⟩
  cases x2 with
  | nil => exact absurd rfl (hany [] (by simp))
  | cons t2 x2 => exact code_11 op hop hS a c x1 t2 x2 w hA
 ·obtain ⟨x1, rfl⟩ : ∃ x1, args = [x1] := by match args, hl with | [a], _ => exact ⟨a, rfl⟩
  exact code_12 op hop hS a c x1 w hA
 ·obtain ⟨x1, x2, rfl⟩ : ∃ x1 x2, args = [x1, x2] := by match args, hl with | [a, b], _ => exact ⟨a, b, rfl⟩
  exact code_13 op hop hS a c x1 x2 w hA
theorem lit_eq {s lit : List UInt8} (h : s = lit) : ((str s).toList == lit) = true := by rw [str_toList, h]; simp
theorem lit_ne {s lit : List UInt8} (h : s ≠ lit) : ((str s).toList == lit) = false := by rw [str_toList]; exact beq_false_of_ne h
theorem stands_one (x : Itm) (sec : Int) : standsT ⟨1, [x], [], linE, 0⟩ sec = if standsB x.kind sec = true then .ok ⟨1, [x], [], linE, 0⟩ else .error 21 := by
 unfold standsT
 simp
theorem sev_stands {args : List (List Tok)} {sec : Int} {kind : Int} (hk : kind = 5 ∨ kind = 6) {l : List Itm} (h0 : args.length ≠ 0) (hi : itsF kind args = .ok l) : sevThg kind args sec = if sec = 1 then .ok ⟨2, l, [], linE, 0⟩ else .error 21 := by
 obtain ⟨h1, h2⟩ := itsF_kind hi
 unfold sevThg
 rw [if_neg h0, hi]
 simp only
 unfold standsT
 by_cases hs : sec = 1
 ·rw [if_pos hs, if_pos]
  refine List.all_eq_true.2 fun x hx => ?_
  rw [h2 x hx]
  rcases hk with rfl | rfl <;> simp [standsB, hs]
 ·rw [if_neg hs, if_neg]
  intro h
  cases l with
  | nil => simp at h1; omega
  | cons x r =>
   have := List.all_eq_true.1 h x (by simp)
   rw [h2 x (by simp)] at this
   rcases hk with rfl | rfl <;> simp [standsB, hs] at this
section
variable (lb : List UInt8) (a : Option Addr) (c : Nat) (args : List (List Tok)) (sec : Int) (w : World) (hA : RArgsIn w.heap.size w a args)
include hA
theorem rd_align : Calls Tryz.prog 29 #[.agg #[.string (str lb), .string (str sAlign), .slice a args.length c], .int .i64 sec] w fun e w' => Below w.heap.size w w' /\ ThOut w' (singThg 3 1 args sec) e := by
 by_cases hl : args.length = 1
 ·obtain ⟨x0, rfl⟩ : ∃ x0, args = [x0] := by match args, hl with | [x], _ => exact ⟨x, rfl⟩
  cases hi : itOf 3 x0 with
  | error k =>
   have hF : singThg 3 1 [x0] sec = .error k := by unfold singThg; rw [if_neg (by simp)]; simp only [singF, hi]
   rw [hF]
   refine refDir_err lb sAlign (by decide) (by decide +kernel) a 1 c [x0] sec w hA k (by rcases itOf_err hi with h | h <;> omega) (fun w1 h1 => ?_)
   have := ddir_align a c x0 w1 h1
   rw [hi] at this
   exact this
  | ok x =>
   have hk := itOf_kind hi
   have hF : singThg 3 1 [x0] sec = .ok ⟨1, [x], [], linE, 0⟩ := by unfold singThg; rw [if_neg (by simp)]; simp only [singF, hi]; rw [stands_one, hk]; rfl
   rw [hF]
   refine refDir_keep lb sAlign (by decide) (by decide +kernel) a 1 c [x0] sec w hA _ (lit_ne (by decide)) (lit_ne (by decide)) (lit_ne (by decide)) (lit_ne (by decide)) (fun w1 h1 => ?_)
   have := ddir_align a c x0 w1 h1
   rw [hi] at this
   exact this
 ·have hF : singThg 3 1 args sec = .error 20 := by unfold singThg; rw [if_pos hl]
  rw [hF]
  exact refDir_err lb sAlign (by decide) (by decide +kernel) a args.length c args sec w hA 20 (by decide) (fun w1 _ => ddirLen_align a args.length c (by omega) w1)
theorem rd_space : Calls Tryz.prog 29 #[.agg #[.string (str lb), .string (str sSpace), .slice a args.length c], .int .i64 sec] w fun e w' => Below w.heap.size w w' /\ ThOut w' (singThg 7 1 args sec) e := by
 by_cases hl : args.length = 1
 ·obtain ⟨x0, rfl⟩ : ∃ x0, args = [x0] := by match args, hl with | [x], _ => exact ⟨x, rfl⟩
  cases hi : itOf 7 x0 with
  | error k =>
   have hF : singThg 7 1 [x0] sec = .error k := by unfold singThg; rw [if_neg (by simp)]; simp only [singF, hi]
   rw [hF]
   refine refDir_err lb sSpace (by decide) (by decide +kernel) a 1 c [x0] sec w hA k (by rcases itOf_err hi with h | h <;> omega) (fun w1 h1 => ?_)
   have := ddir_space a c x0 w1 h1
   rw [hi] at this
   exact this
  | ok x =>
   have hk := itOf_kind hi
   have hd : ∀ w1, RArgsIn w1.heap.size w1 a [x0] -> Calls Tryz.prog 55 #[.string (str sSpace), .slice a 1 c] w1 fun e w' => Below w1.heap.size w1 w' /\ ThOut w' (.ok ⟨1, [x], [], linE, 0⟩) e := fun w1 h1 => by
    have := ddir_space a c x0 w1 h1
    rw [hi] at this
    exact this
   by_cases hsec : sec = 1
   ·have hF : singThg 7 1 [x0] sec = .ok ⟨1, [x], [], linE, 0⟩ := by unfold singThg; rw [if_neg (by simp)]; simp only [singF, hi]; rw [stands_one, hk, hsec]; rfl
    rw [hF]
    exact refDir_spaceOk lb sSpace (by decide) (by decide +kernel) a 1 c [x0] sec w hA _ (lit_ne (by decide)) (lit_ne (by decide)) (lit_ne (by decide)) (lit_eq rfl) hsec hd
   ·have hF : singThg 7 1 [x0] sec = .error 21 := by unfold singThg; rw [if_neg (by simp)]; simp only [singF, hi]; rw [stands_one, hk, if_neg (by simp [standsB, hsec])]
    rw [hF]
    exact refDir_spaceBad lb sSpace (by decide) (by decide +kernel) a 1 c [x0] sec w hA _ (lit_ne (by decide)) (lit_ne (by decide)) (lit_ne (by decide)) (lit_eq rfl) hsec hd
 ·have hF : singThg 7 1 args sec = .error 20 := by unfold singThg; rw [if_pos hl]
  rw [hF]
  exact refDir_err lb sSpace (by decide) (by decide +kernel) a args.length c args sec w hA 20 (by decide) (fun w1 _ => ddirLen_space a args.length c (by omega) w1)
theorem rd_pool : Calls Tryz.prog 29 #[.agg #[.string (str lb), .string (str sPool), .slice a args.length c], .int .i64 sec] w fun e w' => Below w.heap.size w w' /\ ThOut w' (singThg 4 0 args sec) e := by
 by_cases hl : args.length = 0
 ·obtain rfl : args = [] := List.length_eq_zero_iff.1 hl
  by_cases hsec : sec = 1
  ·have hF : singThg 4 0 [] sec = .error 21 := by unfold singThg; rw [if_neg (by simp)]; simp only [singF]; rw [stands_one, if_neg (by simp [standsB, hsec])]
   rw [hF]
   exact refDir_poolBad lb sPool (by decide) (by decide +kernel) a 0 c [] sec w hA _ (lit_eq rfl) hsec (fun w1 _ => ddir_pool a c w1)
  ·have hF : singThg 4 0 [] sec = .ok ⟨1, [{ itmE with kind := 4 }], [], linE, 0⟩ := by unfold singThg; rw [if_neg (by simp)]; simp only [singF]; rw [stands_one, if_pos (by simp [standsB, hsec])]
   rw [hF]
   exact refDir_poolOk lb sPool (by decide) (by decide +kernel) a 0 c [] sec w hA _ (lit_eq rfl) (lit_ne (by decide)) (lit_ne (by decide)) (lit_ne (by decide)) hsec (fun w1 _ => ddir_pool a c w1)
 ·have hF : singThg 4 0 args sec = .error 20 := by unfold singThg; rw [if_pos hl]
  rw [hF]
  exact refDir_err lb sPool (by decide) (by decide +kernel) a args.length c args sec w hA 20 (by decide) (fun w1 _ => ddirLen_pool a args.length c (by omega) w1)
theorem rd_byte (hal : args.length <= 1100000) : Calls Tryz.prog 29 #[.agg #[.string (str lb), .string (str sByte), .slice a args.length c], .int .i64 sec] w fun e w' => Below w.heap.size w w' /\ ThOut w' (sevThg 5 args sec) e := by
 by_cases h0 : args.length = 0
 ·have hF : sevThg 5 args sec = .error 20 := by unfold sevThg; rw [if_pos h0]
  rw [hF, h0]
  exact refDir_err lb sByte (by decide) (by decide +kernel) a 0 c args sec w hA 20 (by decide) (fun w1 _ => ddirLen_byte a c w1)
 ·cases hi : itsF 5 args with
  | error k =>
   have hF : sevThg 5 args sec = .error k := by unfold sevThg; rw [if_neg h0, hi]
   rw [hF]
   refine refDir_err lb sByte (by decide) (by decide +kernel) a args.length c args sec w hA k (by rcases itsF_err hi with h | h <;> omega) (fun w1 h1 => ?_)
   have := ddir_byte a c args hal h0 w1 h1
   rw [hi] at this
   exact this
  | ok l =>
   have hd : ∀ w1, RArgsIn w1.heap.size w1 a args -> Calls Tryz.prog 55 #[.string (str sByte), .slice a args.length c] w1 fun e w' => Below w1.heap.size w1 w' /\ ThOut w' (.ok ⟨2, l, [], linE, 0⟩) e := fun w1 h1 => by
    have := ddir_byte a c args hal h0 w1 h1
    rw [hi] at this
    exact this
   rw [sev_stands (.inl rfl) h0 hi]
   by_cases hsec : sec = 1
   ·rw [if_pos hsec]
    exact refDir_byteOk lb sByte (by decide) (by decide +kernel) a args.length c args sec w hA _ (lit_ne (by decide)) (lit_eq rfl) hsec hd
   ·rw [if_neg hsec]
    exact refDir_byteBad lb sByte (by decide) (by decide +kernel) a args.length c args sec w hA _ (lit_ne (by decide)) (lit_eq rfl) hsec hd
theorem rd_word (hal : args.length <= 1100000) : Calls Tryz.prog 29 #[.agg #[.string (str lb), .string (str sWord), .slice a args.length c], .int .i64 sec] w fun e w' => Below w.heap.size w w' /\ ThOut w' (sevThg 6 args sec) e := by
 by_cases h0 : args.length = 0
 ·have hF : sevThg 6 args sec = .error 20 := by unfold sevThg; rw [if_pos h0]
  rw [hF, h0]
  exact refDir_err lb sWord (by decide) (by decide +kernel) a 0 c args sec w hA 20 (by decide) (fun w1 _ => ddirLen_word a c w1)
 ·cases hi : itsF 6 args with
  | error k =>
   have hF : sevThg 6 args sec = .error k := by unfold sevThg; rw [if_neg h0, hi]
   rw [hF]
   refine refDir_err lb sWord (by decide) (by decide +kernel) a args.length c args sec w hA k (by rcases itsF_err hi with h | h <;> omega) (fun w1 h1 => ?_)
   have := ddir_word a c args hal h0 w1 h1
   rw [hi] at this
   exact this
  | ok l =>
   have hd : ∀ w1, RArgsIn w1.heap.size w1 a args -> Calls Tryz.prog 55 #[.string (str sWord), .slice a args.length c] w1 fun e w' => Below w1.heap.size w1 w' /\ ThOut w' (.ok ⟨2, l, [], linE, 0⟩) e := fun w1 h1 => by
    have := ddir_word a c args hal h0 w1 h1
    rw [hi] at this
    exact this
   rw [sev_stands (.inr rfl) h0 hi]
   by_cases hsec : sec = 1
   ·rw [if_pos hsec]
    exact refDir_wordOk lb sWord (by decide) (by decide +kernel) a args.length c args sec w hA _ (lit_ne (by decide)) (lit_ne (by decide)) (lit_eq rfl) hsec hd
   ·rw [if_neg hsec]
    exact refDir_wordBad lb sWord (by decide) (by decide +kernel) a args.length c args sec w hA _ (lit_ne (by decide)) (lit_ne (by decide)) (lit_eq rfl) hsec hd
theorem rd_equ : Calls Tryz.prog 29 #[.agg #[.string (str lb), .string (str sEqu), .slice a args.length c], .int .i64 sec] w fun e w' => Below w.heap.size w w' /\ ThOut w' (equThg args) e := by
 by_cases hl : args.length = 2
 ·obtain ⟨x0, x1, rfl⟩ : ∃ x0 x1, args = [x0, x1] := by match args, hl with | [x, y], _ => exact ⟨x, y, rfl⟩
  show Calls _ _ _ _ fun e w' => Below w.heap.size w w' /\ ThOut w' (equF x0 x1) e
  cases hi : equF x0 x1 with
  | error k =>
   have hk : k ≠ 0 := by
    unfold equF at hi
    split at hi
    ·rename_i hp; cases hi; rw [nameF_err hp]; decide
    ·split at hi
     ·rename_i hp; cases hi; rcases parseF_err hp with h | h <;> omega
     ·cases hi
   refine refDir_err lb sEqu (by decide) (by decide +kernel) a 2 c [x0, x1] sec w hA k hk (fun w1 h1 => ?_)
   have := ddir_equ a c x0 x1 w1 h1
   rw [hi] at this
   exact this
  | ok t =>
   refine refDir_keep lb sEqu (by decide) (by decide +kernel) a 2 c [x0, x1] sec w hA t (lit_ne (by decide)) (lit_ne (by decide)) (lit_ne (by decide)) (lit_ne (by decide)) (fun w1 h1 => ?_)
   have := ddir_equ a c x0 x1 w1 h1
   rw [hi] at this
   exact this
 ·have hF : equThg args = .error 20 := by
   match args, hl with
   | [], _ => rfl
   | [x], _ => rfl
   | [x, y], hl => exact absurd rfl hl
   | x :: y :: z :: r, _ => rfl
  rw [hF]
  exact refDir_err lb sEqu (by decide) (by decide +kernel) a args.length c args sec w hA 20 (by decide) (fun w1 _ => ddirLen_equ a args.length c (by omega) w1)
theorem rd_glo : Calls Tryz.prog 29 #[.agg #[.string (str lb), .string (str sGlobal), .slice a args.length c], .int .i64 sec] w fun e w' => Below w.heap.size w w' /\ ThOut w' (gloThg args) e := by
 by_cases hl : args.length = 1
 ·obtain ⟨x0, rfl⟩ : ∃ x0, args = [x0] := by match args, hl with | [x], _ => exact ⟨x, rfl⟩
  show Calls _ _ _ _ fun e w' => Below w.heap.size w w' /\ ThOut w' (gloF x0) e
  cases hi : gloF x0 with
  | error k =>
   have hk : k ≠ 0 := by
    unfold gloF at hi
    split at hi
    ·rename_i hp; cases hi; rw [nameF_err hp]; decide
    ·cases hi
   refine refDir_err lb sGlobal (by decide) (by decide +kernel) a 1 c [x0] sec w hA k hk (fun w1 h1 => ?_)
   have := ddir_global a c x0 w1 h1
   rw [hi] at this
   exact this
  | ok t =>
   refine refDir_keep lb sGlobal (by decide) (by decide +kernel) a 1 c [x0] sec w hA t (lit_ne (by decide)) (lit_ne (by decide)) (lit_ne (by decide)) (lit_ne (by decide)) (fun w1 h1 => ?_)
   have := ddir_global a c x0 w1 h1
   rw [hi] at this
   exact this
 ·have hF : gloThg args = .error 20 := by
   match args, hl with
   | [], _ => rfl
   | [x], hl => exact absurd rfl hl
   | x :: y :: r, _ => rfl
  rw [hF]
  exact refDir_err lb sGlobal (by decide) (by decide +kernel) a args.length c args sec w hA 20 (by decide) (fun w1 _ => ddirLen_global a args.length c (by omega) w1)
theorem rd_sec : Calls Tryz.prog 29 #[.agg #[.string (str lb), .string (str sSection), .slice a args.length c], .int .i64 sec] w fun e w' => Below w.heap.size w w' /\ ThOut w' (secThg args) e := by
 by_cases hl : args.length = 1
 ·obtain ⟨x0, rfl⟩ : ∃ x0, args = [x0] := by match args, hl with | [x], _ => exact ⟨x, rfl⟩
  show Calls _ _ _ _ fun e w' => Below w.heap.size w w' /\ ThOut w' (secF x0) e
  cases hi : secF x0 with
  | error k =>
   have hk : k ≠ 0 := by
    unfold secF at hi
    split at hi
    ·cases hi
    ·split at hi
     ·cases hi
     ·cases hi; decide
   refine refDir_err lb sSection (by decide) (by decide +kernel) a 1 c [x0] sec w hA k hk (fun w1 h1 => ?_)
   have := ddir_section a c x0 w1 h1
   rw [hi] at this
   exact this
  | ok t =>
   refine refDir_keep lb sSection (by decide) (by decide +kernel) a 1 c [x0] sec w hA t (lit_ne (by decide)) (lit_ne (by decide)) (lit_ne (by decide)) (lit_ne (by decide)) (fun w1 h1 => ?_)
   have := ddir_section a c x0 w1 h1
   rw [hi] at this
   exact this
 ·have hF : secThg args = .error 20 := by
   match args, hl with
   | [], _ => rfl
   | [x], hl => exact absurd rfl hl
   | x :: y :: r, _ => rfl
  rw [hF]
  exact refDir_err lb sSection (by decide) (by decide +kernel) a args.length c args sec w hA 20 (by decide) (fun w1 _ => ddirLen_section a args.length c (by omega) w1)
end
theorem refRead_any (lb s : List UInt8) (a : Option Addr) (c : Nat) (args : List (List Tok)) (hal : args.length <= 1100000) (hfew : FewA args) (hany : ∀ xs ∈ args, xs ≠ []) (sec : Int) (w : World) (hA : RArgsIn w.heap.size w a args) :
  Calls Tryz.prog 29 #[.agg #[.string (str lb), .string (str s), .slice a args.length c], .int .i64 sec] w fun e w' => Below w.heap.size w w' /\ ThOut w' (readF s args sec) e := by
 unfold readF
 by_cases h0 : s = []
 ·rw [if_pos h0, h0]; exact refRead_nil lb a args.length c sec w
 rw [if_neg h0]
 by_cases h1 : s = sAlign
 ·rw [if_pos h1, h1]; exact rd_align lb a c args sec w hA
 rw [if_neg h1]
 by_cases h2 : s = sPool
 ·rw [if_pos h2, h2]; exact rd_pool lb a c args sec w hA
 rw [if_neg h2]
 by_cases h3 : s = sByte
 ·rw [if_pos h3, h3]; exact rd_byte lb a c args sec w hA hal
 rw [if_neg h3]
 by_cases h4 : s = sWord
 ·rw [if_pos h4, h4]; exact rd_word lb a c args sec w hA hal
 rw [if_neg h4]
 by_cases h5 : s = sSpace
 ·rw [if_pos h5, h5]; exact rd_space lb a c args sec w hA
 rw [if_neg h5]
 by_cases h6 : s = sEqu
 ·rw [if_pos h6, h6]; exact rd_equ lb a c args sec w hA
 rw [if_neg h6]
 by_cases h7 : s = sGlobal
 ·rw [if_pos h7, h7]; exact rd_glo lb a c args sec w hA
 rw [if_neg h7]
 by_cases h8 : s = sSection
 ·rw [if_pos h8, h8]; exact rd_sec lb a c args sec w hA
 rw [if_neg h8]
 have hd : s ∉ dirs := by
  simp only [dirs, List.mem_cons, List.not_mem_nil, or_false, not_or]
  exact ⟨h1, h2, h3, h4, h5, h6, h7, h8⟩
 by_cases h9 : findN s = 0
 ·rw [if_pos h9]
  exact refDir_err lb s h0 h9 a args.length c args sec w hA 20 (by decide) (fun w1 _ => ddir_none s hd a args.length c w1)
 rw [if_neg h9]
 have hr := findN_range s
 by_cases hl : args.length = (wantsF (shapeN (findN s))).length
 ·have hF : opThg s args sec = opR (opF (wantsF (shapeN (findN s))) args 0 (opItm (findN s))) sec := by unfold opThg; rw [if_neg (by simp [hl])]; rfl
  rw [hF]
  exact refRead_gen lb s (by omega) (by omega) h0 a c args sec w hA _ (fun x hx => opF_kind hx) (fun h => opF_err h) (fun w1 h1 => code_any (findN s) (by omega) a c args hl hany w1 h1)
 ·have hF : opThg s args sec = opR (.error 20) sec := by unfold opThg; rw [if_pos hl]; rfl
  rw [hF]
  exact refRead_gen lb s (by omega) (by omega) h0 a c args sec w hA (.error 20) (fun x hx => by cases hx) (fun h => by cases h; exact .inl rfl) (fun w1 _ => code_len (findN s) (by omega) a args.length c hl w1)
end Go.Proofs.YtlkmegchaeokgaaGreatDoor
