/- The law IsaAsks, walked. -/
import Derived.Test.YtnlbfhjalnlngaaDoorQuietB
namespace Go.Proofs.YtnlbfhjalnlngaaDoor
open Go.ChangeShapes Go.WideShapes Go.ChangeAt Go.RowKit
set_option linter.unusedVariables false
set_option maxRecDepth 100000

/-- an operation in memory -/
structure OpAt (w : World) (g : Nat) (s : List UInt8) (b h : Int) : Prop where
  s : w.cell? ⟨g, 0, none⟩ = some (.string (str s))
  b : w.cell? ⟨g, 1, none⟩ = some (.int .u8 b)
  h : w.cell? ⟨g, 2, none⟩ = some (.int .i64 h)
  lt : g < w.heap.size
theorem OpAt.drew {w : World} {g : Nat} {s : List UInt8} {b h : Int} (x : OpAt w g s b h) : OpAt w.drew g s b h := ⟨x.s, x.b, x.h, x.lt⟩
theorem OpAt.below {w w' : World} {g : Nat} {s : List UInt8} {b h : Int} (x : OpAt w g s b h) (hb : Below w.heap.size w w') : OpAt w' g s b h :=
  ⟨(hb.cell (p := ⟨g, 0, none⟩) x.lt).trans x.s, (hb.cell (p := ⟨g, 1, none⟩) x.lt).trans x.b, (hb.cell (p := ⟨g, 2, none⟩) x.lt).trans x.h, Nat.lt_of_lt_of_le x.lt hb.size⟩
theorem opAt_new (w : World) (s : List UInt8) (b h : Int) : OpAt (w.alloc (.cells #[.string (str s), .int .u8 b, .int .i64 h] 27)) w.heap.size s b h :=
  ⟨(cell_block (heap_alloc_new w _) 0).trans rfl, (cell_block (heap_alloc_new w _) 1).trans rfl, (cell_block (heap_alloc_new w _) 2).trans rfl, by simp⟩

theorem chain2 {w w1 w2 : World} (a : Below w.heap.size w w1) (b : Below w1.heap.size w1 w2) : Below w.heap.size w w2 := a.trans (b.mono a.size)

set_option maxHeartbeats 2000000 in
theorem asks_law (s : ByteArray) (op n f : Int) (w : World) (hT : Tab w) (hop1 : -9223372036854775808 ≤ op ∧ op ≤ 9223372036854775807) (hn : -2147483648 ≤ n ∧ n ≤ 2147483647) (hf1 : -9223372036854775808 ≤ f ∧ f ≤ 9223372036854775807) :
    Calls Tryd.prog 4 #[.string s, .int .i64 op, .int .i32 n, .int .i64 f] w fun e w' => e = .returned (.bool true) ∧ Below w.heap.size w w' := by
  clear hop1 hf1
  have hTH := Hid.intro hT
  have hnH := Hid.intro hn
  obtain ⟨K, hK⟩ : ∃ K, findN (nm s) = K := ⟨_, rfl⟩
  have hKH := Hid.intro hK
  obtain ⟨H, hH⟩ : ∃ H, shapeN op = H := ⟨_, rfl⟩
  have hHH := Hid.intro hH
  have hSh : Hid (∀ W, Calls Tryd.prog 18 #[.int .i64 op] W fun e w' => e = .returned (.int .i64 H) ∧ Below W.heap.size W w') := fun W => by rw [← hH]; exact shape_any op W
  by_cases hop : 1 ≤ op ∧ op ≤ 43
  · have hd : decide (1 ≤ op ∧ op ≤ 43) = true := decide_eq_true hop
    have hdH := Hid.intro hd
    have hpos : decide (H > 0) = true := by rw [← hH]; exact decide_eq_true (by have := shapeN_some hop; omega)
    have hpos2 : 0 < H := by have := shapeN_some hop; omega
    clear hT hn hK hop hd hH
    go_enter Tryd.func4, Tryd.ntmps4
    go_wp2_with (first | (go_at_call 11; refine (find_any _ _ hTH.out).mono ?_; rintro e w1 ⟨rfl, rfl⟩; rw [hKH.out]) | (go_at_call 12; refine (at_parts _ _ hTH.out).mono ?_; rintro e w2 ⟨⟨nm1, by1, rfl⟩, hb2⟩; rw [hdH.out, hHH.out]; have hO2 := Hid.intro (opAt_new w2 nm1 by1 H); have hT2 := Hid.intro (hTH.out.below hb2 hTH.out.size); replace hb2 := Hid.intro hb2) | (go_at_call 17; refine (refFind_any _ _).mono ?_; rintro e w3 ⟨rfl, hb3⟩; rw [hKH.out]; have hO3 := Hid.intro (hO2.out.below hb3); have hT3 := Hid.intro ((hT2.out.alloc _).below hb3 (hT2.out.alloc _).size); have hw3 := Hid.intro (chain2 (hb2.out.alloc hb2.out.size _) hb3); clear hb3))
    obtain ⟨c0, c1, c2, hlt⟩ := hO3.out
    have m0 : ∀ p : BelowOf w3, p.wd.cell? ⟨w2.heap.size, 0, none⟩ = some (.string (str nm1)) := fun p => p.cell hlt c0
    have m1 : ∀ p : BelowOf w3, p.wd.cell? ⟨w2.heap.size, 1, none⟩ = some (.int .u8 by1) := fun p => p.cell hlt c1
    have m2 : ∀ p : BelowOf w3, p.wd.cell? ⟨w2.heap.size, 2, none⟩ = some (.int .i64 H) := fun p => p.cell hlt c2
    refine wp_region_quiet_below (by kernel_rfl) (by kernel_rfl) ?_
    repeat (first | (with_reducible refine wpQuiet_skip (by with_unfolding_all rfl) ?_; simp only [Act.put, List.setIfInBounds_toArray, List.set_cons_zero, List.set_cons_succ]) | (with_reducible refine wpQuiet_step (fun K hK => ?_); go_simp; first | (with_reducible refine hK _ ?_; clear hK K) | (apply Exists.intro; refine ⟨fun _ => ?_, hK _ ?_⟩; (go_at_call 18; with_reducible refine below_calls (hSh.out _)); clear hK K)))
    with_reducible refine wpQuiet_nil ?_
    intro _ hw'
    obtain ⟨pq, hw''⟩ := hw'
    subst hw''
    have hT4 := Hid.intro (hT3.out.below pq.h hT3.out.size)
    clear m0 m1 m2
    have hw4 := Hid.intro (chain2 hw3.out pq.h)
    go_wp2_with (first | (go_at_call 13; refine (spansOp_any _ _ hT4.out).mono ?_; rintro e w5 ⟨rfl, hb5⟩; rw [hHH.out]; have hT5 := Hid.intro (hT4.out.below hb5 hT4.out.size); have hw5 := Hid.intro (chain2 hw4.out hb5); clear hb5) | (go_at_call 19; refine (refSpans_any _ _).mono ?_; rintro e w6 ⟨rfl, hb6⟩; rw [hHH.out]; have hT6 := Hid.intro (hT5.out.below hb6 hT5.out.size); have hw6 := Hid.intro (chain2 hw5.out hb6); clear hb6) | (go_at_call 20; refine (reaches_any _ _ _ hnH.out).mono ?_; rintro e w7 ⟨rfl, hw7⟩; subst hw7) | (go_at_call 21; refine (fits_any _ _ _).mono ?_; rintro e w8 ⟨rfl, hw8⟩; subst hw8) | (go_at_call 16; refine (known_any _ (by assumption)).mono ?_; rintro e w9 ⟨rfl, hb9⟩))
    all_goals go_ret
    all_goals exact ⟨rfl, chain2 hw6.out hb9⟩

  · have hd : atV op = .tuple #[opV [] 0 0, .bool false] := by rw [atV, if_neg hop]
    have hdH := Hid.intro hd
    have hH0 : H = 0 := by rw [← hH, shapeN, if_neg hop]
    subst hH0
    clear hT hn hK hop hd hH
    go_enter Tryd.func4, Tryd.ntmps4
    go_wp2_with (first | (go_at_call 11; refine (find_any _ _ hTH.out).mono ?_; rintro e w1 ⟨rfl, rfl⟩; rw [hKH.out]) | (go_at_call 12; refine (at_any _ _ hTH.out).mono ?_; rintro e w2 ⟨rfl, hb2⟩; rw [hdH.out]; have hO2 := Hid.intro (opAt_new w2 [] 0 0); have hT2 := Hid.intro (hTH.out.below hb2 hTH.out.size); replace hb2 := Hid.intro hb2) | (go_at_call 17; refine (refFind_any _ _).mono ?_; rintro e w3 ⟨rfl, hb3⟩; rw [hKH.out]; have hO3 := Hid.intro (hO2.out.below hb3); have hT3 := Hid.intro ((hT2.out.alloc _).below hb3 (hT2.out.alloc _).size); have hw3 := Hid.intro (chain2 (hb2.out.alloc hb2.out.size _) hb3); clear hb3))
    obtain ⟨c0, c1, c2, hlt⟩ := hO3.out
    have m0 : ∀ p : BelowOf w3, p.wd.cell? ⟨w2.heap.size, 0, none⟩ = some (.string (str [])) := fun p => p.cell hlt c0
    have m1 : ∀ p : BelowOf w3, p.wd.cell? ⟨w2.heap.size, 1, none⟩ = some (.int .u8 0) := fun p => p.cell hlt c1
    have m2 : ∀ p : BelowOf w3, p.wd.cell? ⟨w2.heap.size, 2, none⟩ = some (.int .i64 0) := fun p => p.cell hlt c2
    refine wp_region_quiet_below (by kernel_rfl) (by kernel_rfl) ?_
    repeat (first | (with_reducible refine wpQuiet_skip (by with_unfolding_all rfl) ?_; simp only [Act.put, List.setIfInBounds_toArray, List.set_cons_zero, List.set_cons_succ]) | (with_reducible refine wpQuiet_step (fun K hK => ?_); go_simp; first | (with_reducible refine hK _ ?_; clear hK K) | (apply Exists.intro; refine ⟨fun _ => ?_, hK _ ?_⟩; (go_at_call 18; with_reducible refine below_calls (hSh.out _)); clear hK K)))
    with_reducible refine wpQuiet_nil ?_
    intro _ hw'
    obtain ⟨pq, hw''⟩ := hw'
    subst hw''
    have hT4 := Hid.intro (hT3.out.below pq.h hT3.out.size)
    clear m0 m1 m2
    have hw4 := Hid.intro (chain2 hw3.out pq.h)
    go_wp2_with (first | (go_at_call 13; refine (spansOp_any _ _ hT4.out).mono ?_; rintro e w5 ⟨rfl, hb5⟩; rw [hHH.out]; have hT5 := Hid.intro (hT4.out.below hb5 hT4.out.size); have hw5 := Hid.intro (chain2 hw4.out hb5); clear hb5) | (go_at_call 19; refine (refSpans_any _ _).mono ?_; rintro e w6 ⟨rfl, hb6⟩; rw [hHH.out]; have hT6 := Hid.intro (hT5.out.below hb6 hT5.out.size); have hw6 := Hid.intro (chain2 hw5.out hb6); clear hb6) | (go_at_call 20; refine (reaches_any _ _ _ hnH.out).mono ?_; rintro e w7 ⟨rfl, hw7⟩; subst hw7) | (go_at_call 21; refine (fits_any _ _ _).mono ?_; rintro e w8 ⟨rfl, hw8⟩; subst hw8) | (go_at_call 16; refine (known_any _ (by assumption)).mono ?_; rintro e w9 ⟨rfl, hb9⟩))
    all_goals go_ret
    all_goals exact ⟨rfl, chain2 hw6.out hb9⟩

end Go.Proofs.YtnlbfhjalnlngaaDoor
