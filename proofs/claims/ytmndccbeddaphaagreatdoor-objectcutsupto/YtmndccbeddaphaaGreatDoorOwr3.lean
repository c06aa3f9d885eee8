/- object's writer: code, an item, lists of items, equs, globals. -/
import Derived.Test.YtmndccbeddaphaaGreatDoorOwr2
import Derived.Test.YtmndccbeddaphaaGreatDoorOrd8
import Derived.Test.YtmndccbeddaphaaGreatDoorOrd15
namespace Go.Proofs.YtmndccbeddaphaaGreatDoor
open Go.ChangeShapes Go.WideShapes Go.ChangeAt Go.RowKit Go.Sort
set_option linter.unusedVariables false
set_option linter.unusedSimpArgs false
set_option maxRecDepth 100000

/-- a number of 64 bits in 32 -/
abbrev u32 (n : Int) : Int := n % 4294967296
def sCode (x : Itm) : List Int := O.leB (u32 x.op) 1 ++ O.leB (u32 x.a) 1 ++ O.leB (u32 x.b) 1 ++ O.leB (u32 x.m) 4 ++ if shE (shapeN x.op) then sLin x.e else []
def sItem (x : Itm) : List Int := O.leB (u32 x.kind) 1 ++ (if x.kind = 1 then sTx x.name else if x.kind = 2 then sCode x else if x.kind = 3 ∨ x.kind = 5 then O.leB (u32 x.n) 2 else if x.kind = 6 then sLin x.e else if x.kind = 7 then O.leB (u32 x.n) 4 else [])
def sEqu (q : Eqv) : List Int := sTx q.1 ++ sLin q.2
structure okN (x : Lin) : Prop where
  few : x.terms.length ≤ 9000000
  each : ∀ t ∈ x.terms, okW t
  const : 0 ≤ x.const ∧ x.const ≤ 4294967295
structure okJ (x : Itm) : Prop where
  name : x.name.length ≤ 32
  lin : okN x.e

section
variable {w w' w0 wA : World} {r : Nat} {acc zs : List Int} {k : Nat} {a : Option Addr} {c : Nat}
theorem u32_bd (n : Int) : 0 ≤ u32 n ∧ u32 n ≤ 4294967295 := by unfold u32; omega

theorem wn1 (g : WG wA w r) (h : WX w r acc k) (hk : k ≤ 50000) (n : Int) : Calls Tryz.prog 109 #[.pointer (some ⟨r, 0, none⟩), .int .u32 (u32 n), .int .i64 1] w fun e w' => e = .returned (.tuple #[]) ∧ WG wA w' r ∧ WX w' r (acc ++ O.leB (u32 n) 1) (k + 4) := by
  refine (wnum_is h (by omega) (u32 n) (u32_bd n) 1 (.inl rfl)).mono ?_
  rintro e w1 ⟨rfl, g1, x1⟩
  exact ⟨rfl, g.trans g1, x1⟩
theorem wn2 (g : WG wA w r) (h : WX w r acc k) (hk : k ≤ 50000) (n : Int) : Calls Tryz.prog 109 #[.pointer (some ⟨r, 0, none⟩), .int .u32 (u32 n), .int .i64 2] w fun e w' => e = .returned (.tuple #[]) ∧ WG wA w' r ∧ WX w' r (acc ++ O.leB (u32 n) 2) (k + 4) := by
  refine (wnum_is h (by omega) (u32 n) (u32_bd n) 2 (.inr (.inl rfl))).mono ?_
  rintro e w1 ⟨rfl, g1, x1⟩
  exact ⟨rfl, g.trans g1, x1⟩
theorem wn4 (g : WG wA w r) (h : WX w r acc k) (hk : k ≤ 50000) (n : Int) : Calls Tryz.prog 109 #[.pointer (some ⟨r, 0, none⟩), .int .u32 (u32 n), .int .i64 4] w fun e w' => e = .returned (.tuple #[]) ∧ WG wA w' r ∧ WX w' r (acc ++ O.leB (u32 n) 4) (k + 4) := by
  refine (wnum_is h (by omega) (u32 n) (u32_bd n) 4 (.inr (.inr rfl))).mono ?_
  rintro e w1 ⟨rfl, g1, x1⟩
  exact ⟨rfl, g.trans g1, x1⟩
theorem wtx (g : WG wA w r) (h : WX w r acc k) (hk : k ≤ 50000) (s : List UInt8) (hs : s.length ≤ 32) : Calls Tryz.prog 73 #[.pointer (some ⟨r, 0, none⟩), .string (str s)] w fun e w' => e = .returned (.tuple #[]) ∧ WG wA w' r ∧ WX w' r (acc ++ sTx s) (k + 40) := by
  refine (wtext_is h (by omega) (str s) 40 (by rw [str_size]; omega) (by omega)).mono ?_
  rintro e w1 ⟨rfl, g1, x1⟩
  exact ⟨rfl, g.trans g1, x1⟩
theorem wli (hr : w0.heap.size ≤ r) (hB : Below w0.heap.size w0 wA) (g : WG wA w r) (h : WX w r acc k) (hk : k ≤ 20000) (x : Lin) (hx : okN x) (hI : TmLies w0 a x.terms) : Calls Tryz.prog 111 #[.pointer (some ⟨r, 0, none⟩), .agg #[.slice a x.terms.length c, .int .u32 x.const]] w fun e w' => e = .returned (.tuple #[]) ∧ WG wA w' r ∧ WX w' r (acc ++ sLin x) (k + 204) := by
  refine (wlin_is h (by omega) hr (hB.trans (g.below.mono hr)) x hx.few hx.each hx.const hI).mono ?_
  rintro e w1 ⟨rfl, g1, x1⟩
  exact ⟨rfl, g.trans g1, x1⟩

theorem ten_read {T : TypeId} {g : Nat} {v0 v1 v2 v3 v4 v5 v6 v7 v8 v9 : Value} (h : w.heap[g]? = some (.cells #[v0, v1, v2, v3, v4, v5, v6, v7, v8, v9] T (0, 0))) : (w.cell? ⟨g, 0, none⟩ = some v0 ∧ w.cell? ⟨g, 1, none⟩ = some v1 ∧ w.cell? ⟨g, 2, none⟩ = some v2 ∧ w.cell? ⟨g, 3, none⟩ = some v3 ∧ w.cell? ⟨g, 4, none⟩ = some v4) ∧ w.cell? ⟨g, 5, none⟩ = some v5 ∧ w.cell? ⟨g, 6, none⟩ = some v6 ∧ w.cell? ⟨g, 7, none⟩ = some v7 ∧ w.cell? ⟨g, 8, none⟩ = some v8 ∧ w.cell? ⟨g, 9, none⟩ = some v9 :=
  ⟨⟨(cell_blockT h 0).trans rfl, (cell_blockT h 1).trans rfl, (cell_blockT h 2).trans rfl, (cell_blockT h 3).trans rfl, (cell_blockT h 4).trans rfl⟩, (cell_blockT h 5).trans rfl, (cell_blockT h 6).trans rfl, (cell_blockT h 7).trans rfl, (cell_blockT h 8).trans rfl, (cell_blockT h 9).trans rfl⟩

set_option maxHeartbeats 8000000 in
theorem wcode_is (h : WX w r acc k) (hk : k ≤ 10000) (hr : w0.heap.size ≤ r) (hB : Below w0.heap.size w0 w) (hT : Tab w0) (x : Itm) (hx : okJ x) (hI : TmLies w0 a x.e.terms) : Calls Tryz.prog 110 #[.pointer (some ⟨r, 0, none⟩), .agg (itmCells x (.slice a x.e.terms.length c))] w fun e w' => e = .returned (.tuple #[]) ∧ WG w w' r ∧ WX w' r (acc ++ sCode x) (k + 230) := by
  have hrl := h.lt
  obtain ⟨n0, hn0⟩ : ∃ n0, n0 = x.e.terms.length := ⟨_, rfl⟩
  have hb := below_alloc w (.cells (itmCells x (.slice a n0 c)) 86)
  have e1 := heap_alloc_new w (.cells (itmCells x (.slice a n0 c)) 86)
  have hsz : w0.heap.size ≤ w.heap.size := hB.size
  have hg0 : WG w (w.alloc (.cells (itmCells x (.slice a n0 c)) 86)) r := WG.of_below hb hrl
  have hX0 := Hid.intro (h.below hb)
  have hTB : Hid (∀ w1, WG w w1 r → Tab w1) := fun w1 g1 => (hT.below hB hT.size).below g1.below (Nat.le_trans hT.size hr)
  have hcell : Hid (∀ w1, WG (w.alloc (.cells (itmCells x (.slice a n0 c)) 86)) w1 r → _) := fun w1 g1 => ten_read (g1.blk e1 (by omega) (by decide))
  have hLB := hB
  have h1 : Hid (∀ w1 w2, WG w w1 r → WG w1 w2 r → WG w w2 r) := fun w1 w2 g1 g2 => g1.trans g2
  have hA := Hid.intro (wn1 (n := x.op) (WG.refl _ r) hX0.out (by omega))
  have hBB : Hid (∀ w1, WG (w.alloc (.cells (itmCells x (.slice a n0 c)) 86)) w1 r → WX w1 r (acc ++ O.leB (u32 x.op) 1) (k + 4) → _) := fun w1 g1 x1 => wn1 (n := x.a) g1 x1 (by omega)
  have hC : Hid (∀ w1, WG (w.alloc (.cells (itmCells x (.slice a n0 c)) 86)) w1 r → WX w1 r (acc ++ O.leB (u32 x.op) 1 ++ O.leB (u32 x.a) 1) (k + 4 + 4) → _) := fun w1 g1 x1 => wn1 (n := x.b) g1 x1 (by omega)
  have hD : Hid (∀ w1, WG (w.alloc (.cells (itmCells x (.slice a n0 c)) 86)) w1 r → WX w1 r (acc ++ O.leB (u32 x.op) 1 ++ O.leB (u32 x.a) 1 ++ O.leB (u32 x.b) 1) (k + 4 + 4 + 4) → _) := fun w1 g1 x1 => wn4 (n := x.m) g1 x1 (by omega)
  have hE : Hid (∀ w1, WG (w.alloc (.cells (itmCells x (.slice a n0 c)) 86)) w1 r → WX w1 r (acc ++ O.leB (u32 x.op) 1 ++ O.leB (u32 x.a) 1 ++ O.leB (u32 x.b) 1 ++ O.leB (u32 x.m) 4) (k + 4 + 4 + 4 + 4) → Calls Tryz.prog 134 #[.int .i64 x.op] w1 fun e w' => e = .returned (.bool (shE (shapeN x.op))) ∧ WG (w.alloc (.cells (itmCells x (.slice a n0 c)) 86)) w' r ∧ WX w' r (acc ++ O.leB (u32 x.op) 1 ++ O.leB (u32 x.a) 1 ++ O.leB (u32 x.b) 1 ++ O.leB (u32 x.m) 4) (k + 4 + 4 + 4 + 4)) := fun w1 g1 x1 => by
    refine (hasExpr_is x.op w1 (hTB.out w1 (hg0.trans g1))).mono ?_
    rintro e w2 ⟨rfl, hb2⟩
    exact ⟨rfl, g1.trans (WG.of_below hb2 x1.lt), x1.below hb2⟩
  have hF : Hid (∀ w1, WG (w.alloc (.cells (itmCells x (.slice a n0 c)) 86)) w1 r → WX w1 r (acc ++ O.leB (u32 x.op) 1 ++ O.leB (u32 x.a) 1 ++ O.leB (u32 x.b) 1 ++ O.leB (u32 x.m) 4) (k + 4 + 4 + 4 + 4) → Calls Tryz.prog 111 #[.pointer (some ⟨r, 0, none⟩), .agg #[.slice a n0 c, .int .u32 x.e.const]] w1 fun e w' => e = .returned (.tuple #[]) ∧ WG (w.alloc (.cells (itmCells x (.slice a n0 c)) 86)) w' r ∧ WX w' r (acc ++ O.leB (u32 x.op) 1 ++ O.leB (u32 x.a) 1 ++ O.leB (u32 x.b) 1 ++ O.leB (u32 x.m) 4 ++ sLin x.e) (k + 4 + 4 + 4 + 4 + 204)) := fun w1 g1 x1 => by
    subst hn0
    exact wli hr (hB.trans (hb.mono hsz)) g1 x1 (by omega) x.e hx.lin hI
  have hfin : Hid (∀ w1, WG (w.alloc (.cells (itmCells x (.slice a n0 c)) 86)) w1 r → WX w1 r (acc ++ O.leB (u32 x.op) 1 ++ O.leB (u32 x.a) 1 ++ O.leB (u32 x.b) 1 ++ O.leB (u32 x.m) 4 ++ if shE (shapeN x.op) then sLin x.e else []) (k + 220) → WG w w1 r ∧ WX w1 r (acc ++ sCode x) (k + 230)) := fun w1 g1 x1 => by
    refine ⟨hg0.trans g1, ?_⟩
    unfold sCode
    simp only [← List.append_assoc] at x1 ⊢
    exact x1.more (by omega)
  have hWop : IntKind.u32.wrap x.op = u32 x.op := by rw [IntKind.wrap_u32]
  have hWa : IntKind.u32.wrap x.a = u32 x.a := by rw [IntKind.wrap_u32]
  have hWb : IntKind.u32.wrap x.b = u32 x.b := by rw [IntKind.wrap_u32]
  have hWm : IntKind.u32.wrap x.m = u32 x.m := by rw [IntKind.wrap_u32]
  rw [← hn0]
  clear hn0 h hb e1 hB hT hI hx hTB hLB h1 hg0 hX0 hrl hsz
  generalize u32 x.op = UO at *
  generalize u32 x.a = UA at *
  generalize u32 x.b = UB at *
  generalize u32 x.m = UM at *
  cases hS : shE (shapeN x.op)
  all_goals rw [hS] at hE hfin
  · go_enter Tryz.func110, Tryz.ntmps110
    go_wp2_with (first
      | (go_at_call 109; (with_reducible refine (hA.out).mono ?_); rintro e w1 ⟨rfl, g1, x1⟩; obtain ⟨⟨_, _, d2, d3, d4⟩, d5, _, d7, d8, _⟩ := hcell.out w1 g1; replace g1 := Hid.intro g1; replace x1 := Hid.intro x1; clear hA)
      | (go_at_call 109; (with_reducible refine (hBB.out w1 g1.out x1.out).mono ?_); rintro e w2 ⟨rfl, g2, x2⟩; clear d2 d3 d4 d5 d7 d8; obtain ⟨⟨_, _, d2, d3, d4⟩, d5, _, d7, d8, _⟩ := hcell.out w2 g2; replace g2 := Hid.intro g2; replace x2 := Hid.intro x2; clear g1 x1)
      | (go_at_call 109; (with_reducible refine (hC.out w2 g2.out x2.out).mono ?_); rintro e w3 ⟨rfl, g3, x3⟩; clear d2 d3 d4 d5 d7 d8; obtain ⟨⟨_, _, d2, d3, d4⟩, d5, _, d7, d8, _⟩ := hcell.out w3 g3; replace g3 := Hid.intro g3; replace x3 := Hid.intro x3; clear g2 x2)
      | (go_at_call 109; (with_reducible refine (hD.out w3 g3.out x3.out).mono ?_); rintro e w4 ⟨rfl, g4, x4⟩; clear d2 d3 d4 d5 d7 d8; obtain ⟨⟨_, _, d2, d3, d4⟩, d5, _, d7, d8, _⟩ := hcell.out w4 g4; replace g4 := Hid.intro g4; replace x4 := Hid.intro x4; clear g3 x3)
      | (go_at_call 134; (with_reducible refine (hE.out w4 g4.out x4.out).mono ?_); rintro e w5 ⟨rfl, g5, x5⟩; clear d2 d3 d4 d5 d7 d8; obtain ⟨⟨_, _, d2, d3, d4⟩, d5, _, d7, d8, _⟩ := hcell.out w5 g5; replace g5 := Hid.intro g5; replace x5 := Hid.intro x5; clear g4 x4))
    all_goals first | omega | skip
    go_end0
    exact ⟨rfl, hfin.out _ g5.out (by simpa using x5.out.more (by omega))⟩
  · go_enter Tryz.func110, Tryz.ntmps110
    go_wp2_with (first
      | (go_at_call 109; (with_reducible refine (hA.out).mono ?_); rintro e w1 ⟨rfl, g1, x1⟩; obtain ⟨⟨_, _, d2, d3, d4⟩, d5, _, d7, d8, _⟩ := hcell.out w1 g1; replace g1 := Hid.intro g1; replace x1 := Hid.intro x1; clear hA)
      | (go_at_call 109; (with_reducible refine (hBB.out w1 g1.out x1.out).mono ?_); rintro e w2 ⟨rfl, g2, x2⟩; clear d2 d3 d4 d5 d7 d8; obtain ⟨⟨_, _, d2, d3, d4⟩, d5, _, d7, d8, _⟩ := hcell.out w2 g2; replace g2 := Hid.intro g2; replace x2 := Hid.intro x2; clear g1 x1)
      | (go_at_call 109; (with_reducible refine (hC.out w2 g2.out x2.out).mono ?_); rintro e w3 ⟨rfl, g3, x3⟩; clear d2 d3 d4 d5 d7 d8; obtain ⟨⟨_, _, d2, d3, d4⟩, d5, _, d7, d8, _⟩ := hcell.out w3 g3; replace g3 := Hid.intro g3; replace x3 := Hid.intro x3; clear g2 x2)
      | (go_at_call 109; (with_reducible refine (hD.out w3 g3.out x3.out).mono ?_); rintro e w4 ⟨rfl, g4, x4⟩; clear d2 d3 d4 d5 d7 d8; obtain ⟨⟨_, _, d2, d3, d4⟩, d5, _, d7, d8, _⟩ := hcell.out w4 g4; replace g4 := Hid.intro g4; replace x4 := Hid.intro x4; clear g3 x3)
      | (go_at_call 134; (with_reducible refine (hE.out w4 g4.out x4.out).mono ?_); rintro e w5 ⟨rfl, g5, x5⟩; clear d2 d3 d4 d5 d7 d8; obtain ⟨⟨_, _, d2, d3, d4⟩, d5, _, d7, d8, _⟩ := hcell.out w5 g5; replace g5 := Hid.intro g5; replace x5 := Hid.intro x5; clear g4 x4)
      | (go_at_call 111; (with_reducible refine (hF.out w5 g5.out x5.out).mono ?_); rintro e w6 ⟨rfl, g6, x6⟩; replace g6 := Hid.intro g6; replace x6 := Hid.intro x6; clear g5 x5))
    all_goals first | omega | skip
    go_end0
    exact ⟨rfl, hfin.out _ g6.out (by simpa using x6.out.more (by omega))⟩

set_option maxHeartbeats 8000000 in
theorem witem_1 (h : WX w r acc k) (hk : k ≤ 8000) (hr : w0.heap.size ≤ r) (hB : Below w0.heap.size w0 w) (hT : Tab w0) (x : Itm) (hx : okJ x) (hI : TmLies w0 a x.e.terms) (hkd : x.kind = 1) : Calls Tryz.prog 69 #[.pointer (some ⟨r, 0, none⟩), .agg (itmCells x (.slice a x.e.terms.length c))] w fun e w' => e = .returned (.tuple #[]) ∧ WG w w' r ∧ WX w' r (acc ++ sItem x) (k + 240) := by
  have hrl := h.lt
  obtain ⟨n0, hn0⟩ : ∃ n0, n0 = x.e.terms.length := ⟨_, rfl⟩
  have hb := below_alloc w (.cells (itmCells x (.slice a n0 c)) 86)
  have e1 := heap_alloc_new w (.cells (itmCells x (.slice a n0 c)) 86)
  have hsz : w0.heap.size ≤ w.heap.size := hB.size
  have hg0 : WG w (w.alloc (.cells (itmCells x (.slice a n0 c)) 86)) r := WG.of_below hb hrl
  have hX0 := Hid.intro (h.below hb)
  have hTB : Hid (∀ w1, WG w w1 r → Tab w1) := fun w1 g1 => (hT.below hB hT.size).below g1.below (Nat.le_trans hT.size hr)
  have hcell : Hid (∀ w1, WG (w.alloc (.cells (itmCells x (.slice a n0 c)) 86)) w1 r → _) := fun w1 g1 => ten_read (g1.blk e1 (by omega) (by decide))
  have hLB := hB
  have h1 : Hid (∀ w1 w2, WG w w1 r → WG w1 w2 r → WG w w2 r) := fun w1 w2 g1 g2 => g1.trans g2
  have hA := Hid.intro (wn1 (n := x.kind) (WG.refl _ r) hX0.out (by omega))
  have hBB : Hid (∀ w1, WG (w.alloc (.cells (itmCells x (.slice a n0 c)) 86)) w1 r → WX w1 r (acc ++ O.leB (u32 x.kind) 1) (k + 4) → Calls Tryz.prog 73 #[.pointer (some ⟨r, 0, none⟩), .string (str x.name)] w1 fun e w' => e = .returned (.tuple #[]) ∧ WG (w.alloc (.cells (itmCells x (.slice a n0 c)) 86)) w' r ∧ WX w' r (acc ++ O.leB (u32 x.kind) 1 ++ sTx x.name) (k + 240)) := fun w1 g1 x1 => by
    subst hn0
    refine (wtx g1 x1 (by omega) x.name hx.name).mono ?_
    rintro e w2 ⟨rfl, g2, x2⟩
    exact ⟨rfl, g2, x2.more (by omega)⟩
  have hser : sItem x = O.leB (u32 x.kind) 1 ++ sTx x.name := by
    unfold sItem
    simp [hkd]
  have hfin : Hid (∀ w1, WG (w.alloc (.cells (itmCells x (.slice a n0 c)) 86)) w1 r → WX w1 r (acc ++ O.leB (u32 x.kind) 1 ++ sTx x.name) (k + 240) → WG w w1 r ∧ WX w1 r (acc ++ sItem x) (k + 240)) := fun w1 g1 x1 => by
    refine ⟨hg0.trans g1, ?_⟩
    rw [hser, ← List.append_assoc]
    exact x1
  have hWk : IntKind.u32.wrap x.kind = u32 x.kind := by rw [IntKind.wrap_u32]
  have hWn : IntKind.u32.wrap x.n = u32 x.n := by rw [IntKind.wrap_u32]
  rw [← hn0]
  obtain ⟨kd, nm, op, ra, rb, m, fo, e, n⟩ := x
  dsimp only at *
  subst hkd
  clear hn0 h hb e1 hB hT hI hx hTB hLB h1 hg0 hX0 hrl hsz hser
  go_enter Tryz.func69, Tryz.ntmps69
  go_wp2_with (first
    | (go_at_call 109; (with_reducible refine (hA.out).mono ?_); rintro e w1 ⟨rfl, g1, x1⟩; obtain ⟨⟨d0, d1, d2, d3, d4⟩, d5, d6, d7, d8, d9⟩ := hcell.out w1 g1; replace g1 := Hid.intro g1; replace x1 := Hid.intro x1; clear hA)
    | (go_at_call 73; (with_reducible refine (hBB.out w1 g1.out x1.out).mono ?_); rintro e w2 ⟨rfl, g2, x2⟩; replace g2 := Hid.intro g2; replace x2 := Hid.intro x2; clear g1 x1))
  all_goals first | omega | skip
  go_end0
  exact ⟨rfl, hfin.out _ g2.out x2.out⟩

set_option maxHeartbeats 8000000 in
theorem witem_2 (h : WX w r acc k) (hk : k ≤ 8000) (hr : w0.heap.size ≤ r) (hB : Below w0.heap.size w0 w) (hT : Tab w0) (x : Itm) (hx : okJ x) (hI : TmLies w0 a x.e.terms) (hkd : x.kind = 2) : Calls Tryz.prog 69 #[.pointer (some ⟨r, 0, none⟩), .agg (itmCells x (.slice a x.e.terms.length c))] w fun e w' => e = .returned (.tuple #[]) ∧ WG w w' r ∧ WX w' r (acc ++ sItem x) (k + 240) := by
  have hrl := h.lt
  obtain ⟨n0, hn0⟩ : ∃ n0, n0 = x.e.terms.length := ⟨_, rfl⟩
  have hb := below_alloc w (.cells (itmCells x (.slice a n0 c)) 86)
  have e1 := heap_alloc_new w (.cells (itmCells x (.slice a n0 c)) 86)
  have hsz : w0.heap.size ≤ w.heap.size := hB.size
  have hg0 : WG w (w.alloc (.cells (itmCells x (.slice a n0 c)) 86)) r := WG.of_below hb hrl
  have hX0 := Hid.intro (h.below hb)
  have hTB : Hid (∀ w1, WG w w1 r → Tab w1) := fun w1 g1 => (hT.below hB hT.size).below g1.below (Nat.le_trans hT.size hr)
  have hcell : Hid (∀ w1, WG (w.alloc (.cells (itmCells x (.slice a n0 c)) 86)) w1 r → _) := fun w1 g1 => ten_read (g1.blk e1 (by omega) (by decide))
  have hLB := hB
  have h1 : Hid (∀ w1 w2, WG w w1 r → WG w1 w2 r → WG w w2 r) := fun w1 w2 g1 g2 => g1.trans g2
  have hA := Hid.intro (wn1 (n := x.kind) (WG.refl _ r) hX0.out (by omega))
  have hBB : Hid (∀ w1, WG (w.alloc (.cells (itmCells x (.slice a n0 c)) 86)) w1 r → WX w1 r (acc ++ O.leB (u32 x.kind) 1) (k + 4) → Calls Tryz.prog 110 #[.pointer (some ⟨r, 0, none⟩), .agg (itmCells x (.slice a n0 c))] w1 fun e w' => e = .returned (.tuple #[]) ∧ WG (w.alloc (.cells (itmCells x (.slice a n0 c)) 86)) w' r ∧ WX w' r (acc ++ O.leB (u32 x.kind) 1 ++ sCode x) (k + 240)) := fun w1 g1 x1 => by
    subst hn0
    refine (wcode_is x1 (by omega) hr ((hB.trans (hb.mono hsz)).trans (g1.below.mono hr)) hT x hx hI).mono ?_
    rintro e w2 ⟨rfl, g2, x2⟩
    exact ⟨rfl, g1.trans g2, x2.more (by omega)⟩
  have hser : sItem x = O.leB (u32 x.kind) 1 ++ sCode x := by
    unfold sItem
    simp [hkd]
  have hfin : Hid (∀ w1, WG (w.alloc (.cells (itmCells x (.slice a n0 c)) 86)) w1 r → WX w1 r (acc ++ O.leB (u32 x.kind) 1 ++ sCode x) (k + 240) → WG w w1 r ∧ WX w1 r (acc ++ sItem x) (k + 240)) := fun w1 g1 x1 => by
    refine ⟨hg0.trans g1, ?_⟩
    rw [hser, ← List.append_assoc]
    exact x1
  have hWk : IntKind.u32.wrap x.kind = u32 x.kind := by rw [IntKind.wrap_u32]
  have hWn : IntKind.u32.wrap x.n = u32 x.n := by rw [IntKind.wrap_u32]
  rw [← hn0]
  obtain ⟨kd, nm, op, ra, rb, m, fo, e, n⟩ := x
  dsimp only at *
  subst hkd
  clear hn0 h hb e1 hB hT hI hx hTB hLB h1 hg0 hX0 hrl hsz hser
  go_enter Tryz.func69, Tryz.ntmps69
  go_wp2_with (first
    | (go_at_call 109; (with_reducible refine (hA.out).mono ?_); rintro e w1 ⟨rfl, g1, x1⟩; obtain ⟨⟨d0, d1, d2, d3, d4⟩, d5, d6, d7, d8, d9⟩ := hcell.out w1 g1; replace g1 := Hid.intro g1; replace x1 := Hid.intro x1; clear hA)
    | (go_at_call 110; (with_reducible refine (hBB.out w1 g1.out x1.out).mono ?_); rintro e w2 ⟨rfl, g2, x2⟩; replace g2 := Hid.intro g2; replace x2 := Hid.intro x2; clear g1 x1))
  all_goals first | omega | skip
  go_end0
  exact ⟨rfl, hfin.out _ g2.out x2.out⟩

set_option maxHeartbeats 8000000 in
theorem witem_3 (h : WX w r acc k) (hk : k ≤ 8000) (hr : w0.heap.size ≤ r) (hB : Below w0.heap.size w0 w) (hT : Tab w0) (x : Itm) (hx : okJ x) (hI : TmLies w0 a x.e.terms) (hkd : x.kind = 3) : Calls Tryz.prog 69 #[.pointer (some ⟨r, 0, none⟩), .agg (itmCells x (.slice a x.e.terms.length c))] w fun e w' => e = .returned (.tuple #[]) ∧ WG w w' r ∧ WX w' r (acc ++ sItem x) (k + 240) := by
  have hrl := h.lt
  obtain ⟨n0, hn0⟩ : ∃ n0, n0 = x.e.terms.length := ⟨_, rfl⟩
  have hb := below_alloc w (.cells (itmCells x (.slice a n0 c)) 86)
  have e1 := heap_alloc_new w (.cells (itmCells x (.slice a n0 c)) 86)
  have hsz : w0.heap.size ≤ w.heap.size := hB.size
  have hg0 : WG w (w.alloc (.cells (itmCells x (.slice a n0 c)) 86)) r := WG.of_below hb hrl
  have hX0 := Hid.intro (h.below hb)
  have hTB : Hid (∀ w1, WG w w1 r → Tab w1) := fun w1 g1 => (hT.below hB hT.size).below g1.below (Nat.le_trans hT.size hr)
  have hcell : Hid (∀ w1, WG (w.alloc (.cells (itmCells x (.slice a n0 c)) 86)) w1 r → _) := fun w1 g1 => ten_read (g1.blk e1 (by omega) (by decide))
  have hLB := hB
  have h1 : Hid (∀ w1 w2, WG w w1 r → WG w1 w2 r → WG w w2 r) := fun w1 w2 g1 g2 => g1.trans g2
  have hA := Hid.intro (wn1 (n := x.kind) (WG.refl _ r) hX0.out (by omega))
  have hBB : Hid (∀ w1, WG (w.alloc (.cells (itmCells x (.slice a n0 c)) 86)) w1 r → WX w1 r (acc ++ O.leB (u32 x.kind) 1) (k + 4) → Calls Tryz.prog 109 #[.pointer (some ⟨r, 0, none⟩), .int .u32 (u32 x.n), .int .i64 2] w1 fun e w' => e = .returned (.tuple #[]) ∧ WG (w.alloc (.cells (itmCells x (.slice a n0 c)) 86)) w' r ∧ WX w' r (acc ++ O.leB (u32 x.kind) 1 ++ O.leB (u32 x.n) 2) (k + 240)) := fun w1 g1 x1 => by
    subst hn0
    refine (wn2 (n := x.n) g1 x1 (by omega)).mono ?_
    rintro e w2 ⟨rfl, g2, x2⟩
    exact ⟨rfl, g2, x2.more (by omega)⟩
  have hser : sItem x = O.leB (u32 x.kind) 1 ++ O.leB (u32 x.n) 2 := by
    unfold sItem
    simp [hkd]
  have hfin : Hid (∀ w1, WG (w.alloc (.cells (itmCells x (.slice a n0 c)) 86)) w1 r → WX w1 r (acc ++ O.leB (u32 x.kind) 1 ++ O.leB (u32 x.n) 2) (k + 240) → WG w w1 r ∧ WX w1 r (acc ++ sItem x) (k + 240)) := fun w1 g1 x1 => by
    refine ⟨hg0.trans g1, ?_⟩
    rw [hser, ← List.append_assoc]
    exact x1
  have hWk : IntKind.u32.wrap x.kind = u32 x.kind := by rw [IntKind.wrap_u32]
  have hWn : IntKind.u32.wrap x.n = u32 x.n := by rw [IntKind.wrap_u32]
  rw [← hn0]
  obtain ⟨kd, nm, op, ra, rb, m, fo, e, n⟩ := x
  dsimp only at *
  subst hkd
  clear hn0 h hb e1 hB hT hI hx hTB hLB h1 hg0 hX0 hrl hsz hser
  go_enter Tryz.func69, Tryz.ntmps69
  go_wp2_with (first
    | (go_at_call 109; (with_reducible refine (hA.out).mono ?_); rintro e w1 ⟨rfl, g1, x1⟩; obtain ⟨⟨d0, d1, d2, d3, d4⟩, d5, d6, d7, d8, d9⟩ := hcell.out w1 g1; replace g1 := Hid.intro g1; replace x1 := Hid.intro x1; clear hA)
    | (go_at_call 109; (with_reducible refine (hBB.out w1 g1.out x1.out).mono ?_); rintro e w2 ⟨rfl, g2, x2⟩; replace g2 := Hid.intro g2; replace x2 := Hid.intro x2; clear g1 x1))
  all_goals first | omega | skip
  go_end0
  exact ⟨rfl, hfin.out _ g2.out x2.out⟩

set_option maxHeartbeats 8000000 in
theorem witem_5 (h : WX w r acc k) (hk : k ≤ 8000) (hr : w0.heap.size ≤ r) (hB : Below w0.heap.size w0 w) (hT : Tab w0) (x : Itm) (hx : okJ x) (hI : TmLies w0 a x.e.terms) (hkd : x.kind = 5) : Calls Tryz.prog 69 #[.pointer (some ⟨r, 0, none⟩), .agg (itmCells x (.slice a x.e.terms.length c))] w fun e w' => e = .returned (.tuple #[]) ∧ WG w w' r ∧ WX w' r (acc ++ sItem x) (k + 240) := by
  have hrl := h.lt
  obtain ⟨n0, hn0⟩ : ∃ n0, n0 = x.e.terms.length := ⟨_, rfl⟩
  have hb := below_alloc w (.cells (itmCells x (.slice a n0 c)) 86)
  have e1 := heap_alloc_new w (.cells (itmCells x (.slice a n0 c)) 86)
  have hsz : w0.heap.size ≤ w.heap.size := hB.size
  have hg0 : WG w (w.alloc (.cells (itmCells x (.slice a n0 c)) 86)) r := WG.of_below hb hrl
  have hX0 := Hid.intro (h.below hb)
  have hTB : Hid (∀ w1, WG w w1 r → Tab w1) := fun w1 g1 => (hT.below hB hT.size).below g1.below (Nat.le_trans hT.size hr)
  have hcell : Hid (∀ w1, WG (w.alloc (.cells (itmCells x (.slice a n0 c)) 86)) w1 r → _) := fun w1 g1 => ten_read (g1.blk e1 (by omega) (by decide))
  have hLB := hB
  have h1 : Hid (∀ w1 w2, WG w w1 r → WG w1 w2 r → WG w w2 r) := fun w1 w2 g1 g2 => g1.trans g2
  have hA := Hid.intro (wn1 (n := x.kind) (WG.refl _ r) hX0.out (by omega))
  have hBB : Hid (∀ w1, WG (w.alloc (.cells (itmCells x (.slice a n0 c)) 86)) w1 r → WX w1 r (acc ++ O.leB (u32 x.kind) 1) (k + 4) → Calls Tryz.prog 109 #[.pointer (some ⟨r, 0, none⟩), .int .u32 (u32 x.n), .int .i64 2] w1 fun e w' => e = .returned (.tuple #[]) ∧ WG (w.alloc (.cells (itmCells x (.slice a n0 c)) 86)) w' r ∧ WX w' r (acc ++ O.leB (u32 x.kind) 1 ++ O.leB (u32 x.n) 2) (k + 240)) := fun w1 g1 x1 => by
    subst hn0
    refine (wn2 (n := x.n) g1 x1 (by omega)).mono ?_
    rintro e w2 ⟨rfl, g2, x2⟩
    exact ⟨rfl, g2, x2.more (by omega)⟩
  have hser : sItem x = O.leB (u32 x.kind) 1 ++ O.leB (u32 x.n) 2 := by
    unfold sItem
    simp [hkd]
  have hfin : Hid (∀ w1, WG (w.alloc (.cells (itmCells x (.slice a n0 c)) 86)) w1 r → WX w1 r (acc ++ O.leB (u32 x.kind) 1 ++ O.leB (u32 x.n) 2) (k + 240) → WG w w1 r ∧ WX w1 r (acc ++ sItem x) (k + 240)) := fun w1 g1 x1 => by
    refine ⟨hg0.trans g1, ?_⟩
    rw [hser, ← List.append_assoc]
    exact x1
  have hWk : IntKind.u32.wrap x.kind = u32 x.kind := by rw [IntKind.wrap_u32]
  have hWn : IntKind.u32.wrap x.n = u32 x.n := by rw [IntKind.wrap_u32]
  rw [← hn0]
  obtain ⟨kd, nm, op, ra, rb, m, fo, e, n⟩ := x
  dsimp only at *
  subst hkd
  clear hn0 h hb e1 hB hT hI hx hTB hLB h1 hg0 hX0 hrl hsz hser
  go_enter Tryz.func69, Tryz.ntmps69
  go_wp2_with (first
    | (go_at_call 109; (with_reducible refine (hA.out).mono ?_); rintro e w1 ⟨rfl, g1, x1⟩; obtain ⟨⟨d0, d1, d2, d3, d4⟩, d5, d6, d7, d8, d9⟩ := hcell.out w1 g1; replace g1 := Hid.intro g1; replace x1 := Hid.intro x1; clear hA)
    | (go_at_call 109; (with_reducible refine (hBB.out w1 g1.out x1.out).mono ?_); rintro e w2 ⟨rfl, g2, x2⟩; replace g2 := Hid.intro g2; replace x2 := Hid.intro x2; clear g1 x1))
  all_goals first | omega | skip
  go_end0
  exact ⟨rfl, hfin.out _ g2.out x2.out⟩

set_option maxHeartbeats 8000000 in
theorem witem_6 (h : WX w r acc k) (hk : k ≤ 8000) (hr : w0.heap.size ≤ r) (hB : Below w0.heap.size w0 w) (hT : Tab w0) (x : Itm) (hx : okJ x) (hI : TmLies w0 a x.e.terms) (hkd : x.kind = 6) : Calls Tryz.prog 69 #[.pointer (some ⟨r, 0, none⟩), .agg (itmCells x (.slice a x.e.terms.length c))] w fun e w' => e = .returned (.tuple #[]) ∧ WG w w' r ∧ WX w' r (acc ++ sItem x) (k + 240) := by
  have hrl := h.lt
  obtain ⟨n0, hn0⟩ : ∃ n0, n0 = x.e.terms.length := ⟨_, rfl⟩
  have hb := below_alloc w (.cells (itmCells x (.slice a n0 c)) 86)
  have e1 := heap_alloc_new w (.cells (itmCells x (.slice a n0 c)) 86)
  have hsz : w0.heap.size ≤ w.heap.size := hB.size
  have hg0 : WG w (w.alloc (.cells (itmCells x (.slice a n0 c)) 86)) r := WG.of_below hb hrl
  have hX0 := Hid.intro (h.below hb)
  have hTB : Hid (∀ w1, WG w w1 r → Tab w1) := fun w1 g1 => (hT.below hB hT.size).below g1.below (Nat.le_trans hT.size hr)
  have hcell : Hid (∀ w1, WG (w.alloc (.cells (itmCells x (.slice a n0 c)) 86)) w1 r → _) := fun w1 g1 => ten_read (g1.blk e1 (by omega) (by decide))
  have hLB := hB
  have h1 : Hid (∀ w1 w2, WG w w1 r → WG w1 w2 r → WG w w2 r) := fun w1 w2 g1 g2 => g1.trans g2
  have hA := Hid.intro (wn1 (n := x.kind) (WG.refl _ r) hX0.out (by omega))
  have hBB : Hid (∀ w1, WG (w.alloc (.cells (itmCells x (.slice a n0 c)) 86)) w1 r → WX w1 r (acc ++ O.leB (u32 x.kind) 1) (k + 4) → Calls Tryz.prog 111 #[.pointer (some ⟨r, 0, none⟩), .agg #[.slice a n0 c, .int .u32 x.e.const]] w1 fun e w' => e = .returned (.tuple #[]) ∧ WG (w.alloc (.cells (itmCells x (.slice a n0 c)) 86)) w' r ∧ WX w' r (acc ++ O.leB (u32 x.kind) 1 ++ sLin x.e) (k + 240)) := fun w1 g1 x1 => by
    subst hn0
    refine (wli hr (hB.trans (hb.mono hsz)) g1 x1 (by omega) x.e hx.lin hI).mono ?_
    rintro e w2 ⟨rfl, g2, x2⟩
    exact ⟨rfl, g2, x2.more (by omega)⟩
  have hser : sItem x = O.leB (u32 x.kind) 1 ++ sLin x.e := by
    unfold sItem
    simp [hkd]
  have hfin : Hid (∀ w1, WG (w.alloc (.cells (itmCells x (.slice a n0 c)) 86)) w1 r → WX w1 r (acc ++ O.leB (u32 x.kind) 1 ++ sLin x.e) (k + 240) → WG w w1 r ∧ WX w1 r (acc ++ sItem x) (k + 240)) := fun w1 g1 x1 => by
    refine ⟨hg0.trans g1, ?_⟩
    rw [hser, ← List.append_assoc]
    exact x1
  have hWk : IntKind.u32.wrap x.kind = u32 x.kind := by rw [IntKind.wrap_u32]
  have hWn : IntKind.u32.wrap x.n = u32 x.n := by rw [IntKind.wrap_u32]
  rw [← hn0]
  obtain ⟨kd, nm, op, ra, rb, m, fo, e, n⟩ := x
  dsimp only at *
  subst hkd
  clear hn0 h hb e1 hB hT hI hx hTB hLB h1 hg0 hX0 hrl hsz hser
  go_enter Tryz.func69, Tryz.ntmps69
  go_wp2_with (first
    | (go_at_call 109; (with_reducible refine (hA.out).mono ?_); rintro e w1 ⟨rfl, g1, x1⟩; obtain ⟨⟨d0, d1, d2, d3, d4⟩, d5, d6, d7, d8, d9⟩ := hcell.out w1 g1; replace g1 := Hid.intro g1; replace x1 := Hid.intro x1; clear hA)
    | (go_at_call 111; (with_reducible refine (hBB.out w1 g1.out x1.out).mono ?_); rintro e w2 ⟨rfl, g2, x2⟩; replace g2 := Hid.intro g2; replace x2 := Hid.intro x2; clear g1 x1))
  all_goals first | omega | skip
  go_end0
  exact ⟨rfl, hfin.out _ g2.out x2.out⟩

set_option maxHeartbeats 8000000 in
theorem witem_7 (h : WX w r acc k) (hk : k ≤ 8000) (hr : w0.heap.size ≤ r) (hB : Below w0.heap.size w0 w) (hT : Tab w0) (x : Itm) (hx : okJ x) (hI : TmLies w0 a x.e.terms) (hkd : x.kind = 7) : Calls Tryz.prog 69 #[.pointer (some ⟨r, 0, none⟩), .agg (itmCells x (.slice a x.e.terms.length c))] w fun e w' => e = .returned (.tuple #[]) ∧ WG w w' r ∧ WX w' r (acc ++ sItem x) (k + 240) := by
  have hrl := h.lt
  obtain ⟨n0, hn0⟩ : ∃ n0, n0 = x.e.terms.length := ⟨_, rfl⟩
  have hb := below_alloc w (.cells (itmCells x (.slice a n0 c)) 86)
  have e1 := heap_alloc_new w (.cells (itmCells x (.slice a n0 c)) 86)
  have hsz : w0.heap.size ≤ w.heap.size := hB.size
  have hg0 : WG w (w.alloc (.cells (itmCells x (.slice a n0 c)) 86)) r := WG.of_below hb hrl
  have hX0 := Hid.intro (h.below hb)
  have hTB : Hid (∀ w1, WG w w1 r → Tab w1) := fun w1 g1 => (hT.below hB hT.size).below g1.below (Nat.le_trans hT.size hr)
  have hcell : Hid (∀ w1, WG (w.alloc (.cells (itmCells x (.slice a n0 c)) 86)) w1 r → _) := fun w1 g1 => ten_read (g1.blk e1 (by omega) (by decide))
  have hLB := hB
  have h1 : Hid (∀ w1 w2, WG w w1 r → WG w1 w2 r → WG w w2 r) := fun w1 w2 g1 g2 => g1.trans g2
  have hA := Hid.intro (wn1 (n := x.kind) (WG.refl _ r) hX0.out (by omega))
  have hBB : Hid (∀ w1, WG (w.alloc (.cells (itmCells x (.slice a n0 c)) 86)) w1 r → WX w1 r (acc ++ O.leB (u32 x.kind) 1) (k + 4) → Calls Tryz.prog 109 #[.pointer (some ⟨r, 0, none⟩), .int .u32 (u32 x.n), .int .i64 4] w1 fun e w' => e = .returned (.tuple #[]) ∧ WG (w.alloc (.cells (itmCells x (.slice a n0 c)) 86)) w' r ∧ WX w' r (acc ++ O.leB (u32 x.kind) 1 ++ O.leB (u32 x.n) 4) (k + 240)) := fun w1 g1 x1 => by
    subst hn0
    refine (wn4 (n := x.n) g1 x1 (by omega)).mono ?_
    rintro e w2 ⟨rfl, g2, x2⟩
    exact ⟨rfl, g2, x2.more (by omega)⟩
  have hser : sItem x = O.leB (u32 x.kind) 1 ++ O.leB (u32 x.n) 4 := by
    unfold sItem
    simp [hkd]
  have hfin : Hid (∀ w1, WG (w.alloc (.cells (itmCells x (.slice a n0 c)) 86)) w1 r → WX w1 r (acc ++ O.leB (u32 x.kind) 1 ++ O.leB (u32 x.n) 4) (k + 240) → WG w w1 r ∧ WX w1 r (acc ++ sItem x) (k + 240)) := fun w1 g1 x1 => by
    refine ⟨hg0.trans g1, ?_⟩
    rw [hser, ← List.append_assoc]
    exact x1
  have hWk : IntKind.u32.wrap x.kind = u32 x.kind := by rw [IntKind.wrap_u32]
  have hWn : IntKind.u32.wrap x.n = u32 x.n := by rw [IntKind.wrap_u32]
  rw [← hn0]
  obtain ⟨kd, nm, op, ra, rb, m, fo, e, n⟩ := x
  dsimp only at *
  subst hkd
  clear hn0 h hb e1 hB hT hI hx hTB hLB h1 hg0 hX0 hrl hsz hser
  go_enter Tryz.func69, Tryz.ntmps69
  go_wp2_with (first
    | (go_at_call 109; (with_reducible refine (hA.out).mono ?_); rintro e w1 ⟨rfl, g1, x1⟩; obtain ⟨⟨d0, d1, d2, d3, d4⟩, d5, d6, d7, d8, d9⟩ := hcell.out w1 g1; replace g1 := Hid.intro g1; replace x1 := Hid.intro x1; clear hA)
    | (go_at_call 109; (with_reducible refine (hBB.out w1 g1.out x1.out).mono ?_); rintro e w2 ⟨rfl, g2, x2⟩; replace g2 := Hid.intro g2; replace x2 := Hid.intro x2; clear g1 x1))
  all_goals first | omega | skip
  go_end0
  exact ⟨rfl, hfin.out _ g2.out x2.out⟩

set_option maxHeartbeats 8000000 in
theorem witem_o (h : WX w r acc k) (hk : k ≤ 8000) (hr : w0.heap.size ≤ r) (hB : Below w0.heap.size w0 w) (hT : Tab w0) (x : Itm) (hx : okJ x) (hI : TmLies w0 a x.e.terms) (hkd : x.kind ≠ 1 ∧ x.kind ≠ 2 ∧ x.kind ≠ 3 ∧ x.kind ≠ 5 ∧ x.kind ≠ 6 ∧ x.kind ≠ 7) : Calls Tryz.prog 69 #[.pointer (some ⟨r, 0, none⟩), .agg (itmCells x (.slice a x.e.terms.length c))] w fun e w' => e = .returned (.tuple #[]) ∧ WG w w' r ∧ WX w' r (acc ++ sItem x) (k + 240) := by
  have hrl := h.lt
  obtain ⟨n0, hn0⟩ : ∃ n0, n0 = x.e.terms.length := ⟨_, rfl⟩
  have hb := below_alloc w (.cells (itmCells x (.slice a n0 c)) 86)
  have e1 := heap_alloc_new w (.cells (itmCells x (.slice a n0 c)) 86)
  have hsz : w0.heap.size ≤ w.heap.size := hB.size
  have hg0 : WG w (w.alloc (.cells (itmCells x (.slice a n0 c)) 86)) r := WG.of_below hb hrl
  have hX0 := Hid.intro (h.below hb)
  have hTB : Hid (∀ w1, WG w w1 r → Tab w1) := fun w1 g1 => (hT.below hB hT.size).below g1.below (Nat.le_trans hT.size hr)
  have hcell : Hid (∀ w1, WG (w.alloc (.cells (itmCells x (.slice a n0 c)) 86)) w1 r → _) := fun w1 g1 => ten_read (g1.blk e1 (by omega) (by decide))
  have hLB := hB
  have h1 : Hid (∀ w1 w2, WG w w1 r → WG w1 w2 r → WG w w2 r) := fun w1 w2 g1 g2 => g1.trans g2
  have hA := Hid.intro (wn1 (n := x.kind) (WG.refl _ r) hX0.out (by omega))
  have hser : sItem x = O.leB (u32 x.kind) 1 ++ [] := by
    unfold sItem
    rw [if_neg hkd.1, if_neg hkd.2.1, if_neg (by have := hkd; omega), if_neg hkd.2.2.2.2.1, if_neg hkd.2.2.2.2.2]
  have hfin : Hid (∀ w1, WG (w.alloc (.cells (itmCells x (.slice a n0 c)) 86)) w1 r → WX w1 r (acc ++ O.leB (u32 x.kind) 1 ++ []) (k + 240) → WG w w1 r ∧ WX w1 r (acc ++ sItem x) (k + 240)) := fun w1 g1 x1 => by
    refine ⟨hg0.trans g1, ?_⟩
    rw [hser, ← List.append_assoc]
    exact x1
  have hWk : IntKind.u32.wrap x.kind = u32 x.kind := by rw [IntKind.wrap_u32]
  have hWn : IntKind.u32.wrap x.n = u32 x.n := by rw [IntKind.wrap_u32]
  rw [← hn0]
  have q1 : (x.kind == 1) = false := by simpa using hkd.1
  have q2 : (x.kind == 2) = false := by simpa using hkd.2.1
  have q3 : (x.kind == 3) = false := by simpa using hkd.2.2.1
  have q5 : (x.kind == 5) = false := by simpa using hkd.2.2.2.1
  have q6 : (x.kind == 6) = false := by simpa using hkd.2.2.2.2.1
  have q7 : (x.kind == 7) = false := by simpa using hkd.2.2.2.2.2
  clear hkd
  clear hn0 h hb e1 hB hT hI hx hTB hLB h1 hg0 hX0 hrl hsz hser
  go_enter Tryz.func69, Tryz.ntmps69
  go_wp2_with (first
    | (go_at_call 109; (with_reducible refine (hA.out).mono ?_); rintro e w1 ⟨rfl, g1, x1⟩; obtain ⟨⟨d0, d1, d2, d3, d4⟩, d5, d6, d7, d8, d9⟩ := hcell.out w1 g1; replace g1 := Hid.intro g1; replace x1 := Hid.intro x1; clear hA))
  all_goals first | omega | skip
  go_end0
  exact ⟨rfl, hfin.out _ g1.out (by simpa using x1.out.more (by omega))⟩

theorem witem_is (h : WX w r acc k) (hk : k ≤ 8000) (hr : w0.heap.size ≤ r) (hB : Below w0.heap.size w0 w) (hT : Tab w0) (x : Itm) (hx : okJ x) (hI : TmLies w0 a x.e.terms) : Calls Tryz.prog 69 #[.pointer (some ⟨r, 0, none⟩), .agg (itmCells x (.slice a x.e.terms.length c))] w fun e w' => e = .returned (.tuple #[]) ∧ WG w w' r ∧ WX w' r (acc ++ sItem x) (k + 240) := by
  by_cases h1 : x.kind = 1
  · exact witem_1 h hk hr hB hT x hx hI h1
  · by_cases h2 : x.kind = 2
    · exact witem_2 h hk hr hB hT x hx hI h2
    · by_cases h3 : x.kind = 3
      · exact witem_3 h hk hr hB hT x hx hI h3
      · by_cases h5 : x.kind = 5
        · exact witem_5 h hk hr hB hT x hx hI h5
        · by_cases h6 : x.kind = 6
          · exact witem_6 h hk hr hB hT x hx hI h6
          · by_cases h7 : x.kind = 7
            · exact witem_7 h hk hr hB hT x hx hI h7
            · exact witem_o h hk hr hB hT x hx hI ⟨h1, h2, h3, h5, h6, h7⟩
end
end Go.Proofs.YtmndccbeddaphaaGreatDoor
