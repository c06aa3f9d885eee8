/- item's Read, whatever the reader: its walk behind the three calls. -/
import Derived.Test.YtmndccbeddaphaaGreatDoorT1
import Derived.Test.YtmndccbeddaphaaGreatDoorIt9
import Derived.Deep.Cut
/- item's Right. -/
namespace Go.Proofs.YtmndccbeddaphaaGreatDoor
open Go.ChangeShapes Go.WideShapes Go.ChangeAt Go.RowKit
set_option linter.unusedVariables false
set_option maxRecDepth 100000

def rightN (sec : Int) (ok : Bool) : Int := if sec ≠ 0 ∧ sec ≠ 1 then 1 else if ok then 0 else 31

/-- is an item right there? -/
def okB (k : Int) (s : ByteArray) (op a b m f : Int) (ts : List Tm) (c n sec : Int) : Bool := standsB k sec && (nameB k s && (instB k op a b m f && (exprB (hasEB k op) ts c && numOfB k n)))

/-- the item's box, while Right runs -/
structure RI (w : World) (A : Array Value) (wr : World) : Prop where
  bel : Below w.heap.size w wr
  row : wr.heap[w.heap.size]? = some (.cells A 86 (0, 0))
  tab : Tab wr

theorem RI.below {w : World} {A : Array Value} {wr w' : World} (h : RI w A wr) (hb : Below wr.heap.size wr w') : RI w A w' :=
  ⟨h.bel.trans (hb.mono h.bel.size), by rw [hb.block _ (blk_lt h.row)]; exact h.row, h.tab.below hb h.tab.size⟩

theorem rowIt {w : World} {g : Nat} {v0 v1 v2 v3 v4 v5 v6 v7 v8 v9 : Value} (h : w.heap[g]? = some (.cells #[v0, v1, v2, v3, v4, v5, v6, v7, v8, v9] 86 (0, 0))) : w.cell? ⟨g, 0, none⟩ = some v0 ∧ w.cell? ⟨g, 1, none⟩ = some v1 ∧ w.cell? ⟨g, 2, none⟩ = some v2 ∧ w.cell? ⟨g, 3, none⟩ = some v3 ∧ w.cell? ⟨g, 4, none⟩ = some v4 ∧ w.cell? ⟨g, 5, none⟩ = some v5 ∧ w.cell? ⟨g, 6, none⟩ = some v6 ∧ w.cell? ⟨g, 7, none⟩ = some v7 ∧ w.cell? ⟨g, 8, none⟩ = some v8 ∧ w.cell? ⟨g, 9, none⟩ = some v9 :=
  ⟨(cell_blockT h 0).trans rfl, (cell_blockT h 1).trans rfl, (cell_blockT h 2).trans rfl, (cell_blockT h 3).trans rfl, (cell_blockT h 4).trans rfl, (cell_blockT h 5).trans rfl, (cell_blockT h 6).trans rfl, (cell_blockT h 7).trans rfl, (cell_blockT h 8).trans rfl, (cell_blockT h 9).trans rfl⟩

set_option maxHeartbeats 1000000 in
theorem itemRight_any (k : Int) (s : ByteArray) (hs : s.size ≤ 1100000) (op a b m f : Int) (hm : -2147483648 ≤ m ∧ m ≤ 2147483647) (va : Option Addr) (vc : Nat) (ts : List Tm) (c n sec : Int) (hn : -9223372036854775808 ≤ n ∧ n ≤ 9223372036854775807) (w : World) (hT : Tab w) (hL : TmLies w va ts) (hlen : ts.length ≤ 9000000) (hN : ∀ t ∈ ts, t.name.length ≤ 1100000) :
    Calls Tryz.prog 101 #[itV k s op a b m f va ts.length vc c n, .int .i64 sec] w fun e w' => e = .returned (.int .i64 (rightN sec (okB k s op a b m f ts c n sec))) ∧ Below w.heap.size w w' := by
  have h0 : RI w (itA k s op a b m f va ts.length vc c n) (w.alloc (.cells (itA k s op a b m f va ts.length vc c n) 86)) := ⟨below_alloc w _, heap_alloc_new w _, hT.alloc _⟩
  have h23 := fun w1 => stands_any k sec w1
  have h24 := fun w1 => rightName_any k s hs op a b m f va ts.length vc c n w1
  have h25 := fun w1 (h1 : RI w (itA k s op a b m f va ts.length vc c n) w1) => rightInst_any k s op a b m f va ts.length vc c n w1 h1.tab hm
  have h26 := fun w1 (h1 : RI w (itA k s op a b m f va ts.length vc c n) w1) => rightExpression_any k s op a b m f va vc ts c n w1 h1.tab (hL.below h1.bel (Nat.le_refl _)) hlen hN
  have h27 := fun w1 => isNumberOf_any k n w1 hn
  have hF : okB k s op a b m f ts c n sec = (standsB k sec && (nameB k s && (instB k op a b m f && (exprB (hasEB k op) ts c && numOfB k n)))) := rfl
  rw [hF]
  clear hF hT hL hN hs hm hn
  generalize standsB k sec = b1 at h23 ⊢
  generalize nameB k s = b2 at h24 ⊢
  generalize instB k op a b m f = b3 at h25 ⊢
  generalize exprB (hasEB k op) ts c = b4 at h26 ⊢
  generalize numOfB k n = b5 at h27 ⊢
  generalize ts.length = ln at h0 h24 h25 h26 hlen ⊢
  replace h0 := Hid.intro h0
  replace h23 := Hid.intro h23
  replace h24 := Hid.intro h24
  replace h25 := Hid.intro h25
  replace h26 := Hid.intro h26
  replace h27 := Hid.intro h27
  clear hlen
  by_cases hsec : sec = 0 ∨ sec = 1
  · rw [show ∀ ok, rightN sec ok = if ok then 0 else 31 from fun ok => by unfold rightN; rw [if_neg (by omega)]]
    have key : ∀ (c1 : Bool), ((if (c1 : Bool) = true then (0 : Int) else 31) = if c1 then 0 else 31) := fun _ => rfl
    clear key
    rcases hsec with rfl | rfl
    all_goals
      cases b1
      · go_enter Tryz.func101, Tryz.ntmps101
        go_wp2_with (first
          | (go_at_call 122; (with_reducible refine (h23.out _).mono ?_); rintro e w1 ⟨rfl, rfl⟩)
          | (go_at_call 123; (with_reducible refine (h24.out _).mono ?_); rintro e w2 ⟨rfl, hb2⟩; have h2 := Hid.intro (h0.out.below hb2); obtain ⟨q0, q1, q2, q3, q4, q5, q6, q7, q8, q9⟩ := rowIt h2.out.row)
          | (go_at_call 124; (with_reducible refine (h25.out _ h2.out).mono ?_); rintro e w3 ⟨rfl, hb3⟩; have h3 := Hid.intro (h2.out.below hb3); obtain ⟨p0, p1, p2, p3, p4, p5, p6, p7, p8, p9⟩ := rowIt h3.out.row)
          | (go_at_call 125; (with_reducible refine (h26.out _ h3.out).mono ?_); rintro e w4 ⟨rfl, hb4⟩; have h4 := Hid.intro (h3.out.below hb4); obtain ⟨r0, r1, r2, r3, r4, r5, r6, r7, r8, r9⟩ := rowIt h4.out.row)
          | (go_at_call 126; (with_reducible refine (h27.out _).mono ?_); rintro e w5 ⟨rfl, rfl⟩))
        all_goals first | omega | skip
        go_ret
        exact ⟨rfl, h0.out.bel⟩
      · cases b2
        · go_enter Tryz.func101, Tryz.ntmps101
          go_wp2_with (first
            | (go_at_call 122; (with_reducible refine (h23.out _).mono ?_); rintro e w1 ⟨rfl, rfl⟩)
            | (go_at_call 123; (with_reducible refine (h24.out _).mono ?_); rintro e w2 ⟨rfl, hb2⟩; have h2 := Hid.intro (h0.out.below hb2); obtain ⟨q0, q1, q2, q3, q4, q5, q6, q7, q8, q9⟩ := rowIt h2.out.row)
            | (go_at_call 124; (with_reducible refine (h25.out _ h2.out).mono ?_); rintro e w3 ⟨rfl, hb3⟩; have h3 := Hid.intro (h2.out.below hb3); obtain ⟨p0, p1, p2, p3, p4, p5, p6, p7, p8, p9⟩ := rowIt h3.out.row)
            | (go_at_call 125; (with_reducible refine (h26.out _ h3.out).mono ?_); rintro e w4 ⟨rfl, hb4⟩; have h4 := Hid.intro (h3.out.below hb4); obtain ⟨r0, r1, r2, r3, r4, r5, r6, r7, r8, r9⟩ := rowIt h4.out.row)
            | (go_at_call 126; (with_reducible refine (h27.out _).mono ?_); rintro e w5 ⟨rfl, rfl⟩))
          all_goals first | omega | skip
          go_ret
          exact ⟨rfl, h2.out.bel⟩
        · cases b3
          · go_enter Tryz.func101, Tryz.ntmps101
            go_wp2_with (first
              | (go_at_call 122; (with_reducible refine (h23.out _).mono ?_); rintro e w1 ⟨rfl, rfl⟩)
              | (go_at_call 123; (with_reducible refine (h24.out _).mono ?_); rintro e w2 ⟨rfl, hb2⟩; have h2 := Hid.intro (h0.out.below hb2); obtain ⟨q0, q1, q2, q3, q4, q5, q6, q7, q8, q9⟩ := rowIt h2.out.row)
              | (go_at_call 124; (with_reducible refine (h25.out _ h2.out).mono ?_); rintro e w3 ⟨rfl, hb3⟩; have h3 := Hid.intro (h2.out.below hb3); obtain ⟨p0, p1, p2, p3, p4, p5, p6, p7, p8, p9⟩ := rowIt h3.out.row)
              | (go_at_call 125; (with_reducible refine (h26.out _ h3.out).mono ?_); rintro e w4 ⟨rfl, hb4⟩; have h4 := Hid.intro (h3.out.below hb4); obtain ⟨r0, r1, r2, r3, r4, r5, r6, r7, r8, r9⟩ := rowIt h4.out.row)
              | (go_at_call 126; (with_reducible refine (h27.out _).mono ?_); rintro e w5 ⟨rfl, rfl⟩))
            all_goals first | omega | skip
            go_ret
            exact ⟨rfl, h3.out.bel⟩
          · cases b4
            · go_enter Tryz.func101, Tryz.ntmps101
              go_wp2_with (first
                | (go_at_call 122; (with_reducible refine (h23.out _).mono ?_); rintro e w1 ⟨rfl, rfl⟩)
                | (go_at_call 123; (with_reducible refine (h24.out _).mono ?_); rintro e w2 ⟨rfl, hb2⟩; have h2 := Hid.intro (h0.out.below hb2); obtain ⟨q0, q1, q2, q3, q4, q5, q6, q7, q8, q9⟩ := rowIt h2.out.row)
                | (go_at_call 124; (with_reducible refine (h25.out _ h2.out).mono ?_); rintro e w3 ⟨rfl, hb3⟩; have h3 := Hid.intro (h2.out.below hb3); obtain ⟨p0, p1, p2, p3, p4, p5, p6, p7, p8, p9⟩ := rowIt h3.out.row)
                | (go_at_call 125; (with_reducible refine (h26.out _ h3.out).mono ?_); rintro e w4 ⟨rfl, hb4⟩; have h4 := Hid.intro (h3.out.below hb4); obtain ⟨r0, r1, r2, r3, r4, r5, r6, r7, r8, r9⟩ := rowIt h4.out.row)
                | (go_at_call 126; (with_reducible refine (h27.out _).mono ?_); rintro e w5 ⟨rfl, rfl⟩))
              all_goals first | omega | skip
              go_ret
              exact ⟨rfl, h4.out.bel⟩
            · cases b5
              · go_enter Tryz.func101, Tryz.ntmps101
                go_wp2_with (first
                  | (go_at_call 122; (with_reducible refine (h23.out _).mono ?_); rintro e w1 ⟨rfl, rfl⟩)
                  | (go_at_call 123; (with_reducible refine (h24.out _).mono ?_); rintro e w2 ⟨rfl, hb2⟩; have h2 := Hid.intro (h0.out.below hb2); obtain ⟨q0, q1, q2, q3, q4, q5, q6, q7, q8, q9⟩ := rowIt h2.out.row)
                  | (go_at_call 124; (with_reducible refine (h25.out _ h2.out).mono ?_); rintro e w3 ⟨rfl, hb3⟩; have h3 := Hid.intro (h2.out.below hb3); obtain ⟨p0, p1, p2, p3, p4, p5, p6, p7, p8, p9⟩ := rowIt h3.out.row)
                  | (go_at_call 125; (with_reducible refine (h26.out _ h3.out).mono ?_); rintro e w4 ⟨rfl, hb4⟩; have h4 := Hid.intro (h3.out.below hb4); obtain ⟨r0, r1, r2, r3, r4, r5, r6, r7, r8, r9⟩ := rowIt h4.out.row)
                  | (go_at_call 126; (with_reducible refine (h27.out _).mono ?_); rintro e w5 ⟨rfl, rfl⟩))
                all_goals first | omega | skip
                go_ret
                exact ⟨rfl, h4.out.bel⟩
              · go_enter Tryz.func101, Tryz.ntmps101
                go_wp2_with (first
                  | (go_at_call 122; (with_reducible refine (h23.out _).mono ?_); rintro e w1 ⟨rfl, rfl⟩)
                  | (go_at_call 123; (with_reducible refine (h24.out _).mono ?_); rintro e w2 ⟨rfl, hb2⟩; have h2 := Hid.intro (h0.out.below hb2); obtain ⟨q0, q1, q2, q3, q4, q5, q6, q7, q8, q9⟩ := rowIt h2.out.row)
                  | (go_at_call 124; (with_reducible refine (h25.out _ h2.out).mono ?_); rintro e w3 ⟨rfl, hb3⟩; have h3 := Hid.intro (h2.out.below hb3); obtain ⟨p0, p1, p2, p3, p4, p5, p6, p7, p8, p9⟩ := rowIt h3.out.row)
                  | (go_at_call 125; (with_reducible refine (h26.out _ h3.out).mono ?_); rintro e w4 ⟨rfl, hb4⟩; have h4 := Hid.intro (h3.out.below hb4); obtain ⟨r0, r1, r2, r3, r4, r5, r6, r7, r8, r9⟩ := rowIt h4.out.row)
                  | (go_at_call 126; (with_reducible refine (h27.out _).mono ?_); rintro e w5 ⟨rfl, rfl⟩))
                all_goals first | omega | skip
                go_ret
                exact ⟨rfl, h4.out.bel⟩
  · rw [show ∀ ok, rightN sec ok = 1 from fun ok => by unfold rightN; rw [if_pos (by omega)]]
    have n0 : ¬ sec = 0 := fun h => hsec (.inl h)
    have n1 : ¬ sec = 1 := fun h => hsec (.inr h)
    have s0 : (sec == 0) = false := by simp [n0]
    have s1 : (sec == 1) = false := by simp [n1]
    have b0 : (sec != 0) = true := by simp [n0]
    have b1 : (sec != 1) = true := by simp [n1]
    clear hsec
    go_enter Tryz.func101, Tryz.ntmps101
    go_wp2
    all_goals first | omega | skip
    go_ret
    exact ⟨rfl, h0.out.bel⟩

end Go.Proofs.YtmndccbeddaphaaGreatDoor
/- What a line says, as a function; whatever it says, its items are right. -/
namespace Go.Proofs.YtmndccbeddaphaaGreatDoor
set_option linter.unusedVariables false
set_option maxRecDepth 100000

/-! ### its items are right -/

def okI (x : Itm) (sec : Int) : Bool := okB x.kind (str x.name) x.op x.a x.b x.m x.form x.e.terms x.e.const x.n sec

end Go.Proofs.YtmndccbeddaphaaGreatDoor
namespace Go.Proofs.YtmndccbeddaphaaGreatDoor
open Go.ChangeShapes Go.WideShapes Go.ChangeAt Go.RowKit
set_option linter.unusedVariables false
set_option maxRecDepth 100000

theorem ItAt.below {w w' : World} {g o : Nat} {x : Itm} {va : Option Addr} {n vc : Nat} (h : ItAt w g o x va n vc) {B : Nat} (hb : Below B w w') (hg : g < B) : ItAt w' g o x va n vc :=
  ⟨(hb.cell (p := ⟨g, _, none⟩) hg).trans h.kind, (hb.cell (p := ⟨g, _, none⟩) hg).trans h.name, (hb.cell (p := ⟨g, _, none⟩) hg).trans h.op, (hb.cell (p := ⟨g, _, none⟩) hg).trans h.a, (hb.cell (p := ⟨g, _, none⟩) hg).trans h.b, (hb.cell (p := ⟨g, _, none⟩) hg).trans h.m, (hb.cell (p := ⟨g, _, none⟩) hg).trans h.form, (hb.cell (p := ⟨g, _, none⟩) hg).trans h.terms, (hb.cell (p := ⟨g, _, none⟩) hg).trans h.const, (hb.cell (p := ⟨g, _, none⟩) hg).trans h.n⟩

end Go.Proofs.YtmndccbeddaphaaGreatDoor
