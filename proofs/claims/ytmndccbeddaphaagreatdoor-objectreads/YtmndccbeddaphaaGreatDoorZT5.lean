/- T5: what the document's Right wants besides. -/
import Derived.Test.YtmndccbeddaphaaGreatDoorZT4
namespace Go.Proofs.YtmndccbeddaphaaGreatDoor
open Go.ChangeShapes Go.WideShapes Go.ChangeAt Go.RowKit
set_option linter.unusedVariables false
set_option maxRecDepth 100000
structure RC (w : World) (A : Array Value) (op a b m fm : Int) (wr : World) : Prop where
  bel : Below w.heap.size w wr
  row1 : wr.heap[w.heap.size]? = some (.cells A 86 (0, 0))
  row2 : wr.heap[w.heap.size + 1]? = some (.cells #[.int .i64 op, .int .i64 a, .int .i64 b, .int .i32 m, .int .i64 fm] 81 (0, 0))
theorem RC.below {w : World} {A : Array Value} {op a b m fm : Int} {wr w' : World} (h : RC w A op a b m fm wr) (hb : Below wr.heap.size wr w') : RC w A op a b m fm w' :=
  ⟨h.bel.trans (hb.mono h.bel.size), by rw [hb.block _ (blk_lt h.row1)]; exact h.row1, by rw [hb.block _ (blk_lt h.row2)]; exact h.row2⟩
theorem RC.put {w : World} {A : Array Value} {op a b m fm : Int} {wr : World} (h : RC w A op a b m fm wr) : RC w A op a b m 1 (wr.setCell ⟨w.heap.size + 1, 4, none⟩ (.int .i64 1)) := by
  obtain ⟨s1, s2⟩ := row_set h.row2 4 (.int .i64 1)
  exact ⟨h.bel.trans (below_of_grown s2 (by omega) h.bel.size), by rw [s2.block _ (blk_lt h.row1) (by simp)]; exact h.row1, s1⟩
theorem rc_new (w : World) (A : Array Value) (op a b m f : Int) : RC w A op a b m f ((w.alloc (.cells A 86)).alloc (.cells #[.int .i64 op, .int .i64 a, .int .i64 b, .int .i32 m, .int .i64 f] 81)) :=
  ⟨(below_alloc w _).alloc (by simp) _, (two_rows' w A _ 86 81).1, (two_rows' w A _ 86 81).2⟩
theorem rowI5 {w : World} {g : Nat} {v0 v1 v2 v3 v4 : Value} (h : w.heap[g]? = some (.cells #[v0, v1, v2, v3, v4] 81 (0, 0))) : w.cell? ⟨g, 0, none⟩ = some v0 ∧ w.cell? ⟨g, 1, none⟩ = some v1 ∧ w.cell? ⟨g, 2, none⟩ = some v2 ∧ w.cell? ⟨g, 3, none⟩ = some v3 ∧ w.cell? ⟨g, 4, none⟩ = some v4 ∧ ∀ j, w.frozen? ⟨g, j, none⟩ = false :=
  ⟨(cell_blockT h 0).trans rfl, (cell_blockT h 1).trans rfl, (cell_blockT h 2).trans rfl, (cell_blockT h 3).trans rfl, (cell_blockT h 4).trans rfl, fun j => frozen_of_row w g j _ 81 h⟩
set_option maxHeartbeats 2000000 in
theorem refRight_2 (s : ByteArray) (op a b m f : Int) (hm : -2147483648 ≤ m ∧ m ≤ 2147483647) (va : Option Addr) (vc : Nat) (ts : List Tm) (c n sec : Int) (hsec : sec = 0 ∨ sec = 1) (w : World) (hL : TmLies w va ts) (hlen : ts.length ≤ 9000000) (hN : ∀ t ∈ ts, t.name.length ≤ 1100000) :
    Calls Tryz.prog 52 #[itV 2 s op a b m f va ts.length vc c n, .int .i64 sec] w fun e w' => e = .returned (.int .i64 (if docB 2 s op a b m f ts c n sec then 0 else 31)) ∧ Below w.heap.size w w' := by
  have h0 := rc_new w (itA 2 s op a b m f va ts.length vc c n) op a b m f
  have h34 := fun w1 => refSpans_any op w1
  have h35 := fun (fm : Int) w1 => refCheck_any op a b m fm w1 hm
  have h36 := fun w1 => hasE_any op w1
  have h37 := fun w1 (h1 : Below w.heap.size w w1) => refRight_any va vc ts c w1 (hL.below h1 (Nat.le_refl _)) hlen hN
  have h33a := fun w1 => bareTFFT 2 s op a b m f va ts.length vc c n w1
  have h33b := fun w1 => bareFFTF 2 s op a b m f va ts.length vc c n w1
  have hD : docB 2 s op a b m f ts c n sec = ((((decide (sec = 0) && decide (f = 0)) && decide (checkN op a b m (if spansB (shapeN op) then 1 else f) = 0)) && bareB true false false true s op a b m f ts.length c n) && (if shE (shapeN op) then decide (m = 0) && rightF none ts else bareB false false true false s op a b m f ts.length c n)) := rfl
  rw [hD]
  clear hD hL hN hm
  generalize rightF none ts = rf at h37 ⊢
  generalize spansB (shapeN op) = sp at h34 ⊢
  generalize shE (shapeN op) = se at h36 ⊢
  generalize bareB true false false true s op a b m f ts.length c n = ba at h33a ⊢
  generalize bareB false false true false s op a b m f ts.length c n = bb at h33b ⊢
  generalize ts.length = ln at h0 h37 h33a h33b hlen ⊢
  clear hlen
  replace h34 := Hid.intro h34
  replace h35 := Hid.intro h35
  replace h36 := Hid.intro h36
  replace h37 := Hid.intro h37
  replace h33a := Hid.intro h33a
  replace h33b := Hid.intro h33b
  obtain ⟨fm, hfm⟩ : ∃ fm, fm = if sp then 1 else f := ⟨_, rfl⟩
  rw [← hfm]
  have hrest : Hid (∀ (w2 : World), RC w (itA 2 s op a b m f va ln vc c n) op a b m fm w2 → True) := fun _ _ => trivial
  clear hrest
  replace h0 := Hid.intro h0
  have hpre : ∀ (Q : Prop), Q → Q := fun _ h => h
  clear hpre
  cases sp
  · have hf2 : fm = f := by rw [hfm]; rfl
    subst hf2
    clear hfm
    rcases hsec with rfl | rfl
    · rw [show decide ((0 : Int) = 0) = true from rfl, Bool.true_and]
      by_cases hF0 : fm = 0
      · subst hF0
        have hck := h35.out 0
        generalize checkN op a b m 0 = ck at hck ⊢
        clear h35
        replace hck := Hid.intro hck
        by_cases hc0 : ck = 0
        · subst hc0
          cases ba
          · cases se
            all_goals
              go_enter Tryz.func52, Tryz.ntmps52
              go_upto_region 12 with (go_at_call 94; (with_reducible refine (h34.out _).mono ?_); rintro e w2 ⟨rfl, hb2⟩; have hR2 := Hid.intro (h0.out.below hb2); obtain ⟨w2a0, w2a1, w2a2, w2a3, w2a4, w2a5, w2a6, w2a7, w2a8, w2a9⟩ := rowIt hR2.out.row1; obtain ⟨w2i0, w2i1, w2i2, w2i3, w2i4, w2if⟩ := rowI5 hR2.out.row2)
              all_goals first | omega | skip
              go_wp2_with (first | (go_at_call 95; (with_reducible refine (hck.out _).mono ?_); rintro e w5 ⟨rfl, hbw5⟩; have hRw5 := Hid.intro (hR2.out.below hbw5); obtain ⟨w5a0, w5a1, w5a2, w5a3, w5a4, w5a5, w5a6, w5a7, w5a8, w5a9⟩ := rowIt hRw5.out.row1; obtain ⟨w5i0, w5i1, w5i2, w5i3, w5i4, w5if⟩ := rowI5 hRw5.out.row2) | (go_at_call 93; (with_reducible refine (h33a.out _).mono ?_); rintro e w6 ⟨rfl, hbw6⟩; have hRw6 := Hid.intro (hRw5.out.below hbw6); obtain ⟨w6a0, w6a1, w6a2, w6a3, w6a4, w6a5, w6a6, w6a7, w6a8, w6a9⟩ := rowIt hRw6.out.row1; obtain ⟨w6i0, w6i1, w6i2, w6i3, w6i4, w6if⟩ := rowI5 hRw6.out.row2) | (go_at_call 87; (with_reducible refine (h36.out _).mono ?_); rintro e w7 ⟨rfl, hbw7⟩; have hRw7 := Hid.intro (hRw6.out.below hbw7); obtain ⟨w7a0, w7a1, w7a2, w7a3, w7a4, w7a5, w7a6, w7a7, w7a8, w7a9⟩ := rowIt hRw7.out.row1; obtain ⟨w7i0, w7i1, w7i2, w7i3, w7i4, w7if⟩ := rowI5 hRw7.out.row2))
              all_goals first | omega | skip
              go_ret
              exact ⟨rfl, hRw7.out.bel⟩
          · cases se
            · cases bb
              all_goals
                go_enter Tryz.func52, Tryz.ntmps52
                go_upto_region 12 with (go_at_call 94; (with_reducible refine (h34.out _).mono ?_); rintro e w2 ⟨rfl, hb2⟩; have hR2 := Hid.intro (h0.out.below hb2); obtain ⟨w2a0, w2a1, w2a2, w2a3, w2a4, w2a5, w2a6, w2a7, w2a8, w2a9⟩ := rowIt hR2.out.row1; obtain ⟨w2i0, w2i1, w2i2, w2i3, w2i4, w2if⟩ := rowI5 hR2.out.row2)
                all_goals first | omega | skip
                go_wp2_with (first | (go_at_call 95; (with_reducible refine (hck.out _).mono ?_); rintro e w5 ⟨rfl, hbw5⟩; have hRw5 := Hid.intro (hR2.out.below hbw5); obtain ⟨w5a0, w5a1, w5a2, w5a3, w5a4, w5a5, w5a6, w5a7, w5a8, w5a9⟩ := rowIt hRw5.out.row1; obtain ⟨w5i0, w5i1, w5i2, w5i3, w5i4, w5if⟩ := rowI5 hRw5.out.row2) | (go_at_call 93; (with_reducible refine (h33a.out _).mono ?_); rintro e w6 ⟨rfl, hbw6⟩; have hRw6 := Hid.intro (hRw5.out.below hbw6); obtain ⟨w6a0, w6a1, w6a2, w6a3, w6a4, w6a5, w6a6, w6a7, w6a8, w6a9⟩ := rowIt hRw6.out.row1; obtain ⟨w6i0, w6i1, w6i2, w6i3, w6i4, w6if⟩ := rowI5 hRw6.out.row2) | (go_at_call 87; (with_reducible refine (h36.out _).mono ?_); rintro e w7 ⟨rfl, hbw7⟩; have hRw7 := Hid.intro (hRw6.out.below hbw7); obtain ⟨w7a0, w7a1, w7a2, w7a3, w7a4, w7a5, w7a6, w7a7, w7a8, w7a9⟩ := rowIt hRw7.out.row1; obtain ⟨w7i0, w7i1, w7i2, w7i3, w7i4, w7if⟩ := rowI5 hRw7.out.row2) | (go_at_call 93; (with_reducible refine (h33b.out _).mono ?_); rintro e w8 ⟨rfl, hbw8⟩; have hRw8 := Hid.intro (hRw7.out.below hbw8); obtain ⟨w8a0, w8a1, w8a2, w8a3, w8a4, w8a5, w8a6, w8a7, w8a8, w8a9⟩ := rowIt hRw8.out.row1; obtain ⟨w8i0, w8i1, w8i2, w8i3, w8i4, w8if⟩ := rowI5 hRw8.out.row2))
                all_goals first | omega | skip
                go_ret
                exact ⟨rfl, hRw8.out.bel⟩
            · by_cases hm0 : m = 0
              · subst hm0
                cases rf
                all_goals
                  go_enter Tryz.func52, Tryz.ntmps52
                  go_upto_region 12 with (go_at_call 94; (with_reducible refine (h34.out _).mono ?_); rintro e w2 ⟨rfl, hb2⟩; have hR2 := Hid.intro (h0.out.below hb2); obtain ⟨w2a0, w2a1, w2a2, w2a3, w2a4, w2a5, w2a6, w2a7, w2a8, w2a9⟩ := rowIt hR2.out.row1; obtain ⟨w2i0, w2i1, w2i2, w2i3, w2i4, w2if⟩ := rowI5 hR2.out.row2)
                  all_goals first | omega | skip
                  go_wp2_with (first | (go_at_call 95; (with_reducible refine (hck.out _).mono ?_); rintro e w5 ⟨rfl, hbw5⟩; have hRw5 := Hid.intro (hR2.out.below hbw5); obtain ⟨w5a0, w5a1, w5a2, w5a3, w5a4, w5a5, w5a6, w5a7, w5a8, w5a9⟩ := rowIt hRw5.out.row1; obtain ⟨w5i0, w5i1, w5i2, w5i3, w5i4, w5if⟩ := rowI5 hRw5.out.row2) | (go_at_call 93; (with_reducible refine (h33a.out _).mono ?_); rintro e w6 ⟨rfl, hbw6⟩; have hRw6 := Hid.intro (hRw5.out.below hbw6); obtain ⟨w6a0, w6a1, w6a2, w6a3, w6a4, w6a5, w6a6, w6a7, w6a8, w6a9⟩ := rowIt hRw6.out.row1; obtain ⟨w6i0, w6i1, w6i2, w6i3, w6i4, w6if⟩ := rowI5 hRw6.out.row2) | (go_at_call 87; (with_reducible refine (h36.out _).mono ?_); rintro e w7 ⟨rfl, hbw7⟩; have hRw7 := Hid.intro (hRw6.out.below hbw7); obtain ⟨w7a0, w7a1, w7a2, w7a3, w7a4, w7a5, w7a6, w7a7, w7a8, w7a9⟩ := rowIt hRw7.out.row1; obtain ⟨w7i0, w7i1, w7i2, w7i3, w7i4, w7if⟩ := rowI5 hRw7.out.row2) | (go_at_call 54; (with_reducible refine (h37.out _ hRw7.out.bel).mono ?_); rintro e w8 ⟨rfl, hbw8⟩; have hRw8 := Hid.intro (hRw7.out.below hbw8)))
                  all_goals first | omega | skip
                  go_ret
                  exact ⟨rfl, hRw8.out.bel⟩
              · have hm1 : (m == 0) = false := by simp [hm0]
                rw [show decide (m = 0) = false by simp [hm0]]
                go_enter Tryz.func52, Tryz.ntmps52
                go_upto_region 12 with (go_at_call 94; (with_reducible refine (h34.out _).mono ?_); rintro e w2 ⟨rfl, hb2⟩; have hR2 := Hid.intro (h0.out.below hb2); obtain ⟨w2a0, w2a1, w2a2, w2a3, w2a4, w2a5, w2a6, w2a7, w2a8, w2a9⟩ := rowIt hR2.out.row1; obtain ⟨w2i0, w2i1, w2i2, w2i3, w2i4, w2if⟩ := rowI5 hR2.out.row2)
                all_goals first | omega | skip
                go_wp2_with (first | (go_at_call 95; (with_reducible refine (hck.out _).mono ?_); rintro e w5 ⟨rfl, hbw5⟩; have hRw5 := Hid.intro (hR2.out.below hbw5); obtain ⟨w5a0, w5a1, w5a2, w5a3, w5a4, w5a5, w5a6, w5a7, w5a8, w5a9⟩ := rowIt hRw5.out.row1; obtain ⟨w5i0, w5i1, w5i2, w5i3, w5i4, w5if⟩ := rowI5 hRw5.out.row2) | (go_at_call 93; (with_reducible refine (h33a.out _).mono ?_); rintro e w6 ⟨rfl, hbw6⟩; have hRw6 := Hid.intro (hRw5.out.below hbw6); obtain ⟨w6a0, w6a1, w6a2, w6a3, w6a4, w6a5, w6a6, w6a7, w6a8, w6a9⟩ := rowIt hRw6.out.row1; obtain ⟨w6i0, w6i1, w6i2, w6i3, w6i4, w6if⟩ := rowI5 hRw6.out.row2) | (go_at_call 87; (with_reducible refine (h36.out _).mono ?_); rintro e w7 ⟨rfl, hbw7⟩; have hRw7 := Hid.intro (hRw6.out.below hbw7); obtain ⟨w7a0, w7a1, w7a2, w7a3, w7a4, w7a5, w7a6, w7a7, w7a8, w7a9⟩ := rowIt hRw7.out.row1; obtain ⟨w7i0, w7i1, w7i2, w7i3, w7i4, w7if⟩ := rowI5 hRw7.out.row2))
                all_goals first | omega | skip
                go_ret
                exact ⟨rfl, hRw7.out.bel⟩
        · have hc1 : (ck == 0) = false := by simp [hc0]
          rw [show decide (ck = 0) = false by simp [hc0]]
          cases se
          all_goals
            go_enter Tryz.func52, Tryz.ntmps52
            go_upto_region 12 with (go_at_call 94; (with_reducible refine (h34.out _).mono ?_); rintro e w2 ⟨rfl, hb2⟩; have hR2 := Hid.intro (h0.out.below hb2); obtain ⟨w2a0, w2a1, w2a2, w2a3, w2a4, w2a5, w2a6, w2a7, w2a8, w2a9⟩ := rowIt hR2.out.row1; obtain ⟨w2i0, w2i1, w2i2, w2i3, w2i4, w2if⟩ := rowI5 hR2.out.row2)
            all_goals first | omega | skip
            go_wp2_with (first | (go_at_call 95; (with_reducible refine (hck.out _).mono ?_); rintro e w5 ⟨rfl, hbw5⟩; have hRw5 := Hid.intro (hR2.out.below hbw5); obtain ⟨w5a0, w5a1, w5a2, w5a3, w5a4, w5a5, w5a6, w5a7, w5a8, w5a9⟩ := rowIt hRw5.out.row1; obtain ⟨w5i0, w5i1, w5i2, w5i3, w5i4, w5if⟩ := rowI5 hRw5.out.row2) | (go_at_call 87; (with_reducible refine (h36.out _).mono ?_); rintro e w7 ⟨rfl, hbw7⟩; have hRw7 := Hid.intro (hRw5.out.below hbw7); obtain ⟨w7a0, w7a1, w7a2, w7a3, w7a4, w7a5, w7a6, w7a7, w7a8, w7a9⟩ := rowIt hRw7.out.row1; obtain ⟨w7i0, w7i1, w7i2, w7i3, w7i4, w7if⟩ := rowI5 hRw7.out.row2))
            all_goals first | omega | skip
            go_ret
            exact ⟨rfl, hRw7.out.bel⟩
      · have hF1 : (fm == 0) = false := by simp [hF0]
        rw [show decide (fm = 0) = false by simp [hF0]]
        cases se
        all_goals
          go_enter Tryz.func52, Tryz.ntmps52
          go_upto_region 12 with (go_at_call 94; (with_reducible refine (h34.out _).mono ?_); rintro e w2 ⟨rfl, hb2⟩; have hR2 := Hid.intro (h0.out.below hb2); obtain ⟨w2a0, w2a1, w2a2, w2a3, w2a4, w2a5, w2a6, w2a7, w2a8, w2a9⟩ := rowIt hR2.out.row1; obtain ⟨w2i0, w2i1, w2i2, w2i3, w2i4, w2if⟩ := rowI5 hR2.out.row2)
          all_goals first | omega | skip
          go_wp2_with (first | (go_at_call 87; (with_reducible refine (h36.out _).mono ?_); rintro e w7 ⟨rfl, hbw7⟩; have hRw7 := Hid.intro (hR2.out.below hbw7); obtain ⟨w7a0, w7a1, w7a2, w7a3, w7a4, w7a5, w7a6, w7a7, w7a8, w7a9⟩ := rowIt hRw7.out.row1; obtain ⟨w7i0, w7i1, w7i2, w7i3, w7i4, w7if⟩ := rowI5 hRw7.out.row2))
          all_goals first | omega | skip
          go_ret
          exact ⟨rfl, hRw7.out.bel⟩
    · rw [show decide ((1 : Int) = 0) = false from rfl, Bool.false_and, Bool.false_and, Bool.false_and, Bool.false_and]
      cases se
      all_goals
        go_enter Tryz.func52, Tryz.ntmps52
        go_upto_region 12 with (go_at_call 94; (with_reducible refine (h34.out _).mono ?_); rintro e w2 ⟨rfl, hb2⟩; have hR2 := Hid.intro (h0.out.below hb2); obtain ⟨w2a0, w2a1, w2a2, w2a3, w2a4, w2a5, w2a6, w2a7, w2a8, w2a9⟩ := rowIt hR2.out.row1; obtain ⟨w2i0, w2i1, w2i2, w2i3, w2i4, w2if⟩ := rowI5 hR2.out.row2)
        all_goals first | omega | skip
        go_wp2_with (first | (go_at_call 87; (with_reducible refine (h36.out _).mono ?_); rintro e w7 ⟨rfl, hbw7⟩; have hRw7 := Hid.intro (hR2.out.below hbw7); obtain ⟨w7a0, w7a1, w7a2, w7a3, w7a4, w7a5, w7a6, w7a7, w7a8, w7a9⟩ := rowIt hRw7.out.row1; obtain ⟨w7i0, w7i1, w7i2, w7i3, w7i4, w7if⟩ := rowI5 hRw7.out.row2))
        all_goals first | omega | skip
        go_ret
        exact ⟨rfl, hRw7.out.bel⟩
  · have hf2 : fm = 1 := by rw [hfm]; rfl
    subst hf2
    clear hfm
    rcases hsec with rfl | rfl
    · rw [show decide ((0 : Int) = 0) = true from rfl, Bool.true_and]
      by_cases hF0 : f = 0
      · subst hF0
        have hck := h35.out 1
        generalize checkN op a b m 1 = ck at hck ⊢
        clear h35
        replace hck := Hid.intro hck
        by_cases hc0 : ck = 0
        · subst hc0
          cases ba
          · cases se
            all_goals
              go_enter Tryz.func52, Tryz.ntmps52
              go_upto_region 12 with (go_at_call 94; (with_reducible refine (h34.out _).mono ?_); rintro e w2 ⟨rfl, hb2⟩; have hR2 := Hid.intro (h0.out.below hb2); obtain ⟨w2a0, w2a1, w2a2, w2a3, w2a4, w2a5, w2a6, w2a7, w2a8, w2a9⟩ := rowIt hR2.out.row1; obtain ⟨w2i0, w2i1, w2i2, w2i3, w2i4, w2if⟩ := rowI5 hR2.out.row2)
              all_goals first | omega | skip
              have hR3 := hR2.out.put
              generalize (w2.setCell ⟨w.heap.size + 1, 4, none⟩ (.int .i64 1)) = w3 at hR3 ⊢
              replace hR3 := Hid.intro hR3
              obtain ⟨w3a0, w3a1, w3a2, w3a3, w3a4, w3a5, w3a6, w3a7, w3a8, w3a9⟩ := rowIt hR3.out.row1
              obtain ⟨w3i0, w3i1, w3i2, w3i3, w3i4, w3if⟩ := rowI5 hR3.out.row2
              go_wp2_with (first | (go_at_call 95; (with_reducible refine (hck.out _).mono ?_); rintro e w5 ⟨rfl, hbw5⟩; have hRw5 := Hid.intro (hR3.out.below hbw5); obtain ⟨w5a0, w5a1, w5a2, w5a3, w5a4, w5a5, w5a6, w5a7, w5a8, w5a9⟩ := rowIt hRw5.out.row1; obtain ⟨w5i0, w5i1, w5i2, w5i3, w5i4, w5if⟩ := rowI5 hRw5.out.row2) | (go_at_call 93; (with_reducible refine (h33a.out _).mono ?_); rintro e w6 ⟨rfl, hbw6⟩; have hRw6 := Hid.intro (hRw5.out.below hbw6); obtain ⟨w6a0, w6a1, w6a2, w6a3, w6a4, w6a5, w6a6, w6a7, w6a8, w6a9⟩ := rowIt hRw6.out.row1; obtain ⟨w6i0, w6i1, w6i2, w6i3, w6i4, w6if⟩ := rowI5 hRw6.out.row2) | (go_at_call 87; (with_reducible refine (h36.out _).mono ?_); rintro e w7 ⟨rfl, hbw7⟩; have hRw7 := Hid.intro (hRw6.out.below hbw7); obtain ⟨w7a0, w7a1, w7a2, w7a3, w7a4, w7a5, w7a6, w7a7, w7a8, w7a9⟩ := rowIt hRw7.out.row1; obtain ⟨w7i0, w7i1, w7i2, w7i3, w7i4, w7if⟩ := rowI5 hRw7.out.row2))
              all_goals first | omega | skip
              go_ret
              exact ⟨rfl, hRw7.out.bel⟩
          · cases se
            · cases bb
              all_goals
                go_enter Tryz.func52, Tryz.ntmps52
                go_upto_region 12 with (go_at_call 94; (with_reducible refine (h34.out _).mono ?_); rintro e w2 ⟨rfl, hb2⟩; have hR2 := Hid.intro (h0.out.below hb2); obtain ⟨w2a0, w2a1, w2a2, w2a3, w2a4, w2a5, w2a6, w2a7, w2a8, w2a9⟩ := rowIt hR2.out.row1; obtain ⟨w2i0, w2i1, w2i2, w2i3, w2i4, w2if⟩ := rowI5 hR2.out.row2)
                all_goals first | omega | skip
                have hR3 := hR2.out.put
                generalize (w2.setCell ⟨w.heap.size + 1, 4, none⟩ (.int .i64 1)) = w3 at hR3 ⊢
                replace hR3 := Hid.intro hR3
                obtain ⟨w3a0, w3a1, w3a2, w3a3, w3a4, w3a5, w3a6, w3a7, w3a8, w3a9⟩ := rowIt hR3.out.row1
                obtain ⟨w3i0, w3i1, w3i2, w3i3, w3i4, w3if⟩ := rowI5 hR3.out.row2
                go_wp2_with (first | (go_at_call 95; (with_reducible refine (hck.out _).mono ?_); rintro e w5 ⟨rfl, hbw5⟩; have hRw5 := Hid.intro (hR3.out.below hbw5); obtain ⟨w5a0, w5a1, w5a2, w5a3, w5a4, w5a5, w5a6, w5a7, w5a8, w5a9⟩ := rowIt hRw5.out.row1; obtain ⟨w5i0, w5i1, w5i2, w5i3, w5i4, w5if⟩ := rowI5 hRw5.out.row2) | (go_at_call 93; (with_reducible refine (h33a.out _).mono ?_); rintro e w6 ⟨rfl, hbw6⟩; have hRw6 := Hid.intro (hRw5.out.below hbw6); obtain ⟨w6a0, w6a1, w6a2, w6a3, w6a4, w6a5, w6a6, w6a7, w6a8, w6a9⟩ := rowIt hRw6.out.row1; obtain ⟨w6i0, w6i1, w6i2, w6i3, w6i4, w6if⟩ := rowI5 hRw6.out.row2) | (go_at_call 87; (with_reducible refine (h36.out _).mono ?_); rintro e w7 ⟨rfl, hbw7⟩; have hRw7 := Hid.intro (hRw6.out.below hbw7); obtain ⟨w7a0, w7a1, w7a2, w7a3, w7a4, w7a5, w7a6, w7a7, w7a8, w7a9⟩ := rowIt hRw7.out.row1; obtain ⟨w7i0, w7i1, w7i2, w7i3, w7i4, w7if⟩ := rowI5 hRw7.out.row2) | (go_at_call 93; (with_reducible refine (h33b.out _).mono ?_); rintro e w8 ⟨rfl, hbw8⟩; have hRw8 := Hid.intro (hRw7.out.below hbw8); obtain ⟨w8a0, w8a1, w8a2, w8a3, w8a4, w8a5, w8a6, w8a7, w8a8, w8a9⟩ := rowIt hRw8.out.row1; obtain ⟨w8i0, w8i1, w8i2, w8i3, w8i4, w8if⟩ := rowI5 hRw8.out.row2))
                all_goals first | omega | skip
                go_ret
                exact ⟨rfl, hRw8.out.bel⟩
            · by_cases hm0 : m = 0
              · subst hm0
                cases rf
                all_goals
                  go_enter Tryz.func52, Tryz.ntmps52
                  go_upto_region 12 with (go_at_call 94; (with_reducible refine (h34.out _).mono ?_); rintro e w2 ⟨rfl, hb2⟩; have hR2 := Hid.intro (h0.out.below hb2); obtain ⟨w2a0, w2a1, w2a2, w2a3, w2a4, w2a5, w2a6, w2a7, w2a8, w2a9⟩ := rowIt hR2.out.row1; obtain ⟨w2i0, w2i1, w2i2, w2i3, w2i4, w2if⟩ := rowI5 hR2.out.row2)
                  all_goals first | omega | skip
                  have hR3 := hR2.out.put
                  generalize (w2.setCell ⟨w.heap.size + 1, 4, none⟩ (.int .i64 1)) = w3 at hR3 ⊢
                  replace hR3 := Hid.intro hR3
                  obtain ⟨w3a0, w3a1, w3a2, w3a3, w3a4, w3a5, w3a6, w3a7, w3a8, w3a9⟩ := rowIt hR3.out.row1
                  obtain ⟨w3i0, w3i1, w3i2, w3i3, w3i4, w3if⟩ := rowI5 hR3.out.row2
                  go_wp2_with (first | (go_at_call 95; (with_reducible refine (hck.out _).mono ?_); rintro e w5 ⟨rfl, hbw5⟩; have hRw5 := Hid.intro (hR3.out.below hbw5); obtain ⟨w5a0, w5a1, w5a2, w5a3, w5a4, w5a5, w5a6, w5a7, w5a8, w5a9⟩ := rowIt hRw5.out.row1; obtain ⟨w5i0, w5i1, w5i2, w5i3, w5i4, w5if⟩ := rowI5 hRw5.out.row2) | (go_at_call 93; (with_reducible refine (h33a.out _).mono ?_); rintro e w6 ⟨rfl, hbw6⟩; have hRw6 := Hid.intro (hRw5.out.below hbw6); obtain ⟨w6a0, w6a1, w6a2, w6a3, w6a4, w6a5, w6a6, w6a7, w6a8, w6a9⟩ := rowIt hRw6.out.row1; obtain ⟨w6i0, w6i1, w6i2, w6i3, w6i4, w6if⟩ := rowI5 hRw6.out.row2) | (go_at_call 87; (with_reducible refine (h36.out _).mono ?_); rintro e w7 ⟨rfl, hbw7⟩; have hRw7 := Hid.intro (hRw6.out.below hbw7); obtain ⟨w7a0, w7a1, w7a2, w7a3, w7a4, w7a5, w7a6, w7a7, w7a8, w7a9⟩ := rowIt hRw7.out.row1; obtain ⟨w7i0, w7i1, w7i2, w7i3, w7i4, w7if⟩ := rowI5 hRw7.out.row2) | (go_at_call 54; (with_reducible refine (h37.out _ hRw7.out.bel).mono ?_); rintro e w8 ⟨rfl, hbw8⟩; have hRw8 := Hid.intro (hRw7.out.below hbw8)))
                  all_goals first | omega | skip
                  go_ret
                  exact ⟨rfl, hRw8.out.bel⟩
              · have hm1 : (m == 0) = false := by simp [hm0]
                rw [show decide (m = 0) = false by simp [hm0]]
                go_enter Tryz.func52, Tryz.ntmps52
                go_upto_region 12 with (go_at_call 94; (with_reducible refine (h34.out _).mono ?_); rintro e w2 ⟨rfl, hb2⟩; have hR2 := Hid.intro (h0.out.below hb2); obtain ⟨w2a0, w2a1, w2a2, w2a3, w2a4, w2a5, w2a6, w2a7, w2a8, w2a9⟩ := rowIt hR2.out.row1; obtain ⟨w2i0, w2i1, w2i2, w2i3, w2i4, w2if⟩ := rowI5 hR2.out.row2)
                all_goals first | omega | skip
                have hR3 := hR2.out.put
                generalize (w2.setCell ⟨w.heap.size + 1, 4, none⟩ (.int .i64 1)) = w3 at hR3 ⊢
                replace hR3 := Hid.intro hR3
                obtain ⟨w3a0, w3a1, w3a2, w3a3, w3a4, w3a5, w3a6, w3a7, w3a8, w3a9⟩ := rowIt hR3.out.row1
                obtain ⟨w3i0, w3i1, w3i2, w3i3, w3i4, w3if⟩ := rowI5 hR3.out.row2
                go_wp2_with (first | (go_at_call 95; (with_reducible refine (hck.out _).mono ?_); rintro e w5 ⟨rfl, hbw5⟩; have hRw5 := Hid.intro (hR3.out.below hbw5); obtain ⟨w5a0, w5a1, w5a2, w5a3, w5a4, w5a5, w5a6, w5a7, w5a8, w5a9⟩ := rowIt hRw5.out.row1; obtain ⟨w5i0, w5i1, w5i2, w5i3, w5i4, w5if⟩ := rowI5 hRw5.out.row2) | (go_at_call 93; (with_reducible refine (h33a.out _).mono ?_); rintro e w6 ⟨rfl, hbw6⟩; have hRw6 := Hid.intro (hRw5.out.below hbw6); obtain ⟨w6a0, w6a1, w6a2, w6a3, w6a4, w6a5, w6a6, w6a7, w6a8, w6a9⟩ := rowIt hRw6.out.row1; obtain ⟨w6i0, w6i1, w6i2, w6i3, w6i4, w6if⟩ := rowI5 hRw6.out.row2) | (go_at_call 87; (with_reducible refine (h36.out _).mono ?_); rintro e w7 ⟨rfl, hbw7⟩; have hRw7 := Hid.intro (hRw6.out.below hbw7); obtain ⟨w7a0, w7a1, w7a2, w7a3, w7a4, w7a5, w7a6, w7a7, w7a8, w7a9⟩ := rowIt hRw7.out.row1; obtain ⟨w7i0, w7i1, w7i2, w7i3, w7i4, w7if⟩ := rowI5 hRw7.out.row2))
                all_goals first | omega | skip
                go_ret
                exact ⟨rfl, hRw7.out.bel⟩
        · have hc1 : (ck == 0) = false := by simp [hc0]
          rw [show decide (ck = 0) = false by simp [hc0]]
          cases se
          all_goals
            go_enter Tryz.func52, Tryz.ntmps52
            go_upto_region 12 with (go_at_call 94; (with_reducible refine (h34.out _).mono ?_); rintro e w2 ⟨rfl, hb2⟩; have hR2 := Hid.intro (h0.out.below hb2); obtain ⟨w2a0, w2a1, w2a2, w2a3, w2a4, w2a5, w2a6, w2a7, w2a8, w2a9⟩ := rowIt hR2.out.row1; obtain ⟨w2i0, w2i1, w2i2, w2i3, w2i4, w2if⟩ := rowI5 hR2.out.row2)
            all_goals first | omega | skip
            have hR3 := hR2.out.put
            generalize (w2.setCell ⟨w.heap.size + 1, 4, none⟩ (.int .i64 1)) = w3 at hR3 ⊢
            replace hR3 := Hid.intro hR3
            obtain ⟨w3a0, w3a1, w3a2, w3a3, w3a4, w3a5, w3a6, w3a7, w3a8, w3a9⟩ := rowIt hR3.out.row1
            obtain ⟨w3i0, w3i1, w3i2, w3i3, w3i4, w3if⟩ := rowI5 hR3.out.row2
            go_wp2_with (first | (go_at_call 95; (with_reducible refine (hck.out _).mono ?_); rintro e w5 ⟨rfl, hbw5⟩; have hRw5 := Hid.intro (hR3.out.below hbw5); obtain ⟨w5a0, w5a1, w5a2, w5a3, w5a4, w5a5, w5a6, w5a7, w5a8, w5a9⟩ := rowIt hRw5.out.row1; obtain ⟨w5i0, w5i1, w5i2, w5i3, w5i4, w5if⟩ := rowI5 hRw5.out.row2) | (go_at_call 87; (with_reducible refine (h36.out _).mono ?_); rintro e w7 ⟨rfl, hbw7⟩; have hRw7 := Hid.intro (hRw5.out.below hbw7); obtain ⟨w7a0, w7a1, w7a2, w7a3, w7a4, w7a5, w7a6, w7a7, w7a8, w7a9⟩ := rowIt hRw7.out.row1; obtain ⟨w7i0, w7i1, w7i2, w7i3, w7i4, w7if⟩ := rowI5 hRw7.out.row2))
            all_goals first | omega | skip
            go_ret
            exact ⟨rfl, hRw7.out.bel⟩
      · have hF1 : (f == 0) = false := by simp [hF0]
        rw [show decide (f = 0) = false by simp [hF0]]
        cases se
        all_goals
          go_enter Tryz.func52, Tryz.ntmps52
          go_upto_region 12 with (go_at_call 94; (with_reducible refine (h34.out _).mono ?_); rintro e w2 ⟨rfl, hb2⟩; have hR2 := Hid.intro (h0.out.below hb2); obtain ⟨w2a0, w2a1, w2a2, w2a3, w2a4, w2a5, w2a6, w2a7, w2a8, w2a9⟩ := rowIt hR2.out.row1; obtain ⟨w2i0, w2i1, w2i2, w2i3, w2i4, w2if⟩ := rowI5 hR2.out.row2)
          all_goals first | omega | skip
          have hR3 := hR2.out.put
          generalize (w2.setCell ⟨w.heap.size + 1, 4, none⟩ (.int .i64 1)) = w3 at hR3 ⊢
          replace hR3 := Hid.intro hR3
          obtain ⟨w3a0, w3a1, w3a2, w3a3, w3a4, w3a5, w3a6, w3a7, w3a8, w3a9⟩ := rowIt hR3.out.row1
          obtain ⟨w3i0, w3i1, w3i2, w3i3, w3i4, w3if⟩ := rowI5 hR3.out.row2
          go_wp2_with (first | (go_at_call 87; (with_reducible refine (h36.out _).mono ?_); rintro e w7 ⟨rfl, hbw7⟩; have hRw7 := Hid.intro (hR3.out.below hbw7); obtain ⟨w7a0, w7a1, w7a2, w7a3, w7a4, w7a5, w7a6, w7a7, w7a8, w7a9⟩ := rowIt hRw7.out.row1; obtain ⟨w7i0, w7i1, w7i2, w7i3, w7i4, w7if⟩ := rowI5 hRw7.out.row2))
          all_goals first | omega | skip
          go_ret
          exact ⟨rfl, hRw7.out.bel⟩
    · rw [show decide ((1 : Int) = 0) = false from rfl, Bool.false_and, Bool.false_and, Bool.false_and, Bool.false_and]
      cases se
      all_goals
        go_enter Tryz.func52, Tryz.ntmps52
        go_upto_region 12 with (go_at_call 94; (with_reducible refine (h34.out _).mono ?_); rintro e w2 ⟨rfl, hb2⟩; have hR2 := Hid.intro (h0.out.below hb2); obtain ⟨w2a0, w2a1, w2a2, w2a3, w2a4, w2a5, w2a6, w2a7, w2a8, w2a9⟩ := rowIt hR2.out.row1; obtain ⟨w2i0, w2i1, w2i2, w2i3, w2i4, w2if⟩ := rowI5 hR2.out.row2)
        all_goals first | omega | skip
        have hR3 := hR2.out.put
        generalize (w2.setCell ⟨w.heap.size + 1, 4, none⟩ (.int .i64 1)) = w3 at hR3 ⊢
        replace hR3 := Hid.intro hR3
        obtain ⟨w3a0, w3a1, w3a2, w3a3, w3a4, w3a5, w3a6, w3a7, w3a8, w3a9⟩ := rowIt hR3.out.row1
        obtain ⟨w3i0, w3i1, w3i2, w3i3, w3i4, w3if⟩ := rowI5 hR3.out.row2
        go_wp2_with (first | (go_at_call 87; (with_reducible refine (h36.out _).mono ?_); rintro e w7 ⟨rfl, hbw7⟩; have hRw7 := Hid.intro (hR3.out.below hbw7); obtain ⟨w7a0, w7a1, w7a2, w7a3, w7a4, w7a5, w7a6, w7a7, w7a8, w7a9⟩ := rowIt hRw7.out.row1; obtain ⟨w7i0, w7i1, w7i2, w7i3, w7i4, w7if⟩ := rowI5 hRw7.out.row2))
        all_goals first | omega | skip
        go_ret
        exact ⟨rfl, hRw7.out.bel⟩
end Go.Proofs.YtmndccbeddaphaaGreatDoor
