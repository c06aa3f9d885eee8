/- The document's reader of objects: item. -/
import Derived.Test.YtmndccbeddaphaaGreatDoorDd4h
namespace Go.Proofs.YtmndccbeddaphaaGreatDoor
open Go.ChangeShapes Go.WideShapes Go.ChangeAt Go.RowKit Go.Sort
set_option linter.unusedVariables false
set_option linter.unusedSimpArgs false
set_option maxRecDepth 100000
section
variable {w w1 w2 w3 : World} {r : Nat} {a : Option Addr} {c : Nat} {zs : List Int} {p : Nat} {bad : Option (Int × Int)} {q : Nat} {A : Array Value}
set_option maxHeartbeats 16000000 in
theorem itemD_1 (h : RD w r a c zs p none) (hk : rdV zs p 1 = 1) : Calls Tryz.prog 88 #[.pointer (some ⟨r, 0, none⟩)] w fun e w' => ItDo w r a c zs p e w' := by
  have hz := h.lies.1
  have hl1 := blk_lt h.blk
  have hA := Hid.intro (h.below (below_alloc w (.cells itZ 86)))
  have n1 : Hid (Calls Tryz.prog 42 #[.pointer (some ⟨r, 0, none⟩), .int .i64 1] (w.alloc (.cells itZ 86)) fun e w' => e = .returned (.int .u32 (rdV zs p 1)) ∧ (w.alloc (.cells itZ 86)).grownBy w' (some r) ∧ RD w' r a c zs (rdP zs p 1) (rdB zs p 1 none)) := numberD_is hA.out 1 (.inl rfl)
  have c1 := (four_readD hA.out.blk).2.1
  have hR : itR zs p none = (⟨1, txL zs (rdP zs p 1), 0, 0, 0, 0, 0, linE, 0⟩, txP zs (rdP zs p 1), txB zs (rdP zs p 1) (rdB zs p 1 none)) := by
    rw [itR, if_pos hk]
  rw [hk] at n1
  have hB1 : rdB zs p 1 none = none := rdV_pos (by omega)
  have hin : itD zs p = (itR zs p none).2.2 := by unfold itD; rw [if_pos (by omega)]
  have n2 : Hid (∀ w1, RD w1 r a c zs (rdP zs p 1) none → Calls Tryz.prog 44 #[.pointer (some ⟨r, 0, none⟩)] w1 fun e w' => e = .returned (.string (str (txL zs (rdP zs p 1)))) ∧ w1.grownBy w' (some r) ∧ RD w' r a c zs (txP zs (rdP zs p 1)) (txB zs (rdP zs p 1) none)) := fun w1 h1 => by
    have := textD_is h1
    rw [tdB_eq h1.lies.1 h1.at_] at this
    rw [str_txL]
    exact this
  have hfin : Hid (itD zs p = txB zs (rdP zs p 1) none ∧ (itD zs p = none → (⟨1, txL zs (rdP zs p 1), 0, 0, 0, 0, 0, linE, 0⟩ : Itm) = (itR zs p none).1 ∧ txP zs (rdP zs p 1) = (itR zs p none).2.1)) := by
    rw [hin, hR, hB1]
    exact ⟨rfl, fun _ => ⟨rfl, rfl⟩⟩
  generalize txL zs (rdP zs p 1) = sN at *
  generalize txB zs (rdP zs p 1) none = b2 at *
  generalize txP zs (rdP zs p 1) = p2 at *
  clear hR
  clear hin
  generalize rdB zs p 1 none = b1 at *
  generalize rdP zs p 1 = p1 at *
  subst hB1
  clear h hA hz hk
  go_enter Tryz.func88, Tryz.ntmps88
  go_wp2_with (first | (go_at_call 42; (with_reducible refine (n1.out).mono ?_); rintro e w1 ⟨rfl, g1, hR1⟩; have hz1 := g1.size; have hC := Hid.intro (DI.new hR1 g1 hl1 1); obtain ⟨x0, x1, x2, x3, x4, x5, x6, x7, x8, x9⟩ := rowIt hC.out.row; obtain ⟨t0, t1, t2, t3, t4, t5, t6, t7, t8, t9⟩ := rowIt hC.out.res; have tf := fun j => frozen_of_row _ w.heap.size j _ 86 hC.out.res; clear n1 hR1 g1) | (go_at_call 44; (with_reducible refine (n2.out _ hC.out.rd).mono ?_); rintro e w2 ⟨rfl, g2, hR2⟩; have hz2 := g2.size; have hD := Hid.intro (hC.out.num g2 hR2); clear x0 x1 x2 x3 x4 x5 x6 x7 x8 x9 t0 t1 t2 t3 t4 t5 t6 t7 t8 t9 tf; have f2 := fun j => frozen_of_row w2 w1.heap.size j _ 86 hD.out.row; obtain ⟨d0, d1, d2, d3, d4, d5, d6, d7, d8, d9⟩ := rowIt hD.out.row; have hD0 := Hid.intro (hD.out.set 1 (.string (str sN))); replace hC := hD0; clear hD ; obtain ⟨x0, x1, x2, x3, x4, x5, x6, x7, x8, x9⟩ := rowIt hC.out.row; obtain ⟨t0, t1, t2, t3, t4, t5, t6, t7, t8, t9⟩ := rowIt hC.out.res; have tf := fun j => frozen_of_row _ w.heap.size j _ 86 hC.out.res; clear g2 hR2 n2))
  all_goals first | omega | skip
  obtain ⟨e1, e2, e3⟩ := hC.out.end (.int .i64 1) (.string (str sN)) (.int .i64 0) (.int .i64 0) (.int .i64 0) (.int .i32 0) (.int .i64 0) (.slice none 0 0) (.int .u32 0) (.int .i64 0)
  obtain ⟨q0, q1, q2, q3, q4, q5, q6, q7, q8, q9⟩ := rowIt e2
  refine bodyPost_ret (by simp [results, Tryz.results88, go_sem, q0, q1, q2, q3, q4, q5, q6, q7, q8, q9]; try rfl) rfl ?_
  refine ⟨⟨1, sN, 0, 0, 0, 0, 0, linE, 0⟩, .slice none 0 0, _, rfl, e1.1, World.ownsRow_nil _ _ _ _, ?_, hfin.out.2⟩
  rw [hfin.out.1]
  exact e1.2
set_option maxHeartbeats 16000000 in
theorem itemD_2t (h : RD w r a c zs p none) (hk : rdV zs p 1 = 2) (hE : shE (shapeN (rdV zs (rdP zs p 1) 1)) = true) : Calls Tryz.prog 88 #[.pointer (some ⟨r, 0, none⟩)] w fun e w' => ItDo w r a c zs p e w' := by
  have hz := h.lies.1
  have hl1 := blk_lt h.blk
  have hA := Hid.intro (h.below (below_alloc w (.cells itZ 86)))
  have n1 : Hid (Calls Tryz.prog 42 #[.pointer (some ⟨r, 0, none⟩), .int .i64 1] (w.alloc (.cells itZ 86)) fun e w' => e = .returned (.int .u32 (rdV zs p 1)) ∧ (w.alloc (.cells itZ 86)).grownBy w' (some r) ∧ RD w' r a c zs (rdP zs p 1) (rdB zs p 1 none)) := numberD_is hA.out 1 (.inl rfl)
  have c1 := (four_readD hA.out.blk).2.1
  have hR : itR zs p none = (⟨2, [], cdOp zs (rdP zs p 1), cdA zs (rdP zs p 1), cdB zs (rdP zs p 1), cdM zs (rdP zs p 1), 0, ⟨cdL zs (rdP zs p 1) (rdB zs p 1 none), cdN zs (rdP zs p 1) (rdB zs p 1 none)⟩, 0⟩, cdP zs (rdP zs p 1) (rdB zs p 1 none), cdE zs (rdP zs p 1) (rdB zs p 1 none)) := by
    rw [itR, if_neg (by omega), if_pos hk]
  rw [hk] at n1
  have hB1 : rdB zs p 1 none = none := rdV_pos (by omega)
  have hin : itD zs p = (itR zs p none).2.2 := by unfold itD; rw [if_pos (by omega)]
  obtain ⟨s1, s2⟩ := code_same (zs := zs) (rdP zs p 1)
  have hv1 := ndV_wd hz (rdP zs p 1) 1 none
  have hv2 : 0 ≤ d2V zs (rdP zs p 1) ∧ d2V zs (rdP zs p 1) < 256 ^ 1 := ndV_wd hz _ 1 _
  have hv3 : 0 ≤ d3V zs (rdP zs p 1) ∧ d3V zs (rdP zs p 1) < 256 ^ 1 := ndV_wd hz _ 1 _
  have hv4 : 0 ≤ d4V zs (rdP zs p 1) ∧ d4V zs (rdP zs p 1) < 256 ^ 4 := ndV_wd hz _ 4 _
  rw [show ndV zs (rdP zs p 1) 1 none = rdV zs (rdP zs p 1) 1 from rfl] at hv1
  have hm4 := sgn4_is (rdV zs (rdP zs (rdP zs (rdP zs (rdP zs p 1) 1) 1) 1) 4) (by have := rdV_wd hz (rdP zs (rdP zs (rdP zs (rdP zs p 1) 1) 1) 1) 4; simpa using this)
  simp only [Int.reducePow] at hv1 hv2 hv3 hv4
  have nA : Hid (∀ w1, RD w1 r a c zs (rdP zs p 1) none → Calls Tryz.prog 42 #[.pointer (some ⟨r, 0, none⟩), .int .i64 1] w1 fun e w' => e = .returned (.int .u32 (rdV zs (rdP zs p 1) 1)) ∧ w1.grownBy w' (some r) ∧ RD w' r a c zs (rdP zs (rdP zs p 1) 1) (rdB zs (rdP zs p 1) 1 none)) := fun w1 h1 => numberD_is h1 1 (.inl rfl)
  have nB : Hid (∀ w1, RD w1 r a c zs (rdP zs (rdP zs p 1) 1) (rdB zs (rdP zs p 1) 1 none) → Calls Tryz.prog 42 #[.pointer (some ⟨r, 0, none⟩), .int .i64 1] w1 fun e w' => e = .returned (.int .u32 (d2V zs (rdP zs p 1))) ∧ w1.grownBy w' (some r) ∧ RD w' r a c zs (d2P zs (rdP zs p 1)) (d2B zs (rdP zs p 1))) := fun w1 h1 => numberD_is h1 1 (.inl rfl)
  have nC : Hid (∀ w1, RD w1 r a c zs (d2P zs (rdP zs p 1)) (d2B zs (rdP zs p 1)) → Calls Tryz.prog 42 #[.pointer (some ⟨r, 0, none⟩), .int .i64 1] w1 fun e w' => e = .returned (.int .u32 (d3V zs (rdP zs p 1))) ∧ w1.grownBy w' (some r) ∧ RD w' r a c zs (d3P zs (rdP zs p 1)) (d3B zs (rdP zs p 1))) := fun w1 h1 => numberD_is h1 1 (.inl rfl)
  have nD : Hid (∀ w1, RD w1 r a c zs (d3P zs (rdP zs p 1)) (d3B zs (rdP zs p 1)) → Calls Tryz.prog 42 #[.pointer (some ⟨r, 0, none⟩), .int .i64 4] w1 fun e w' => e = .returned (.int .u32 (d4V zs (rdP zs p 1))) ∧ w1.grownBy w' (some r) ∧ RD w' r a c zs (d4P zs (rdP zs p 1)) (d4B zs (rdP zs p 1))) := fun w1 h1 => numberD_is h1 4 (.inr (.inr rfl))
  have n87 := Hid.intro (fun (w1 : World) => hasE_any (rdV zs (rdP zs p 1) 1) w1)
  rw [hE] at n87
  have hfin : Hid (∀ ts n p', (liB zs (d4P zs (rdP zs p 1)) (d4B zs (rdP zs p 1)) = none → ts = liL zs (d4P zs (rdP zs p 1)) (d4B zs (rdP zs p 1)) ∧ n = liN zs (d4P zs (rdP zs p 1)) (d4B zs (rdP zs p 1)) ∧ p' = liP zs (d4P zs (rdP zs p 1)) (d4B zs (rdP zs p 1))) → itD zs p = liB zs (d4P zs (rdP zs p 1)) (d4B zs (rdP zs p 1)) ∧ (itD zs p = none → (⟨2, [], rdV zs (rdP zs p 1) 1, d2V zs (rdP zs p 1), d3V zs (rdP zs p 1), wrap32 (d4V zs (rdP zs p 1)), 0, ⟨ts, n⟩, 0⟩ : Itm) = (itR zs p none).1 ∧ p' = (itR zs p none).2.1)) := by
    intro ts n p3 hh
    have hE2 : shE (shapeN (cdOp zs (rdP zs p 1))) = true := hE
    have e1 : cdE zs (rdP zs p 1) none = liB zs (d4P zs (rdP zs p 1)) (d4B zs (rdP zs p 1)) := by
      unfold cdE
      rw [hE2]
      rw [if_pos rfl]
      cases hF : cdF zs (rdP zs p 1) none with
      | some f => rw [s1, hF, liB_s, liB_s]
      | none => rw [(s2 hF).2.2.2, s1, hF]
    have e2 : itD zs p = cdE zs (rdP zs p 1) none := by rw [hin, hR, hB1]
    refine ⟨e2.trans e1, fun h0 => ?_⟩
    have hF : cdF zs (rdP zs p 1) none = none := by
      cases hF : cdF zs (rdP zs p 1) none with
      | none => rfl
      | some f => rw [e2, e1, s1, hF, liB_s] at h0; cases h0
    obtain ⟨t1, t2, t3⟩ := hh (by rw [← e1, ← e2]; exact h0)
    obtain ⟨r1, r2, r3, r4⟩ := s2 hF
    rw [hR, hB1, r1, r2, r3]
    rw [t1, t2, t3, r4, s1, hF]
    rw [← hm4]
    unfold cdL cdN cdP
    rw [hE2, hF]
    exact ⟨rfl, rfl⟩
  have n2 : Hid (∀ w1, RD w1 r a c zs (d4P zs (rdP zs p 1)) (d4B zs (rdP zs p 1)) → Calls Tryz.prog 45 #[.pointer (some ⟨r, 0, none⟩)] w1 fun e w' => LiOut w1 r a c zs (d4P zs (rdP zs p 1)) (d4B zs (rdP zs p 1)) e w') := fun w1 h1 => linD_is h1
  unfold LiOut at n2
  generalize liL zs (d4P zs (rdP zs p 1)) (d4B zs (rdP zs p 1)) = L0 at *
  generalize liN zs (d4P zs (rdP zs p 1)) (d4B zs (rdP zs p 1)) = Ln0 at *
  generalize liB zs (d4P zs (rdP zs p 1)) (d4B zs (rdP zs p 1)) = b2 at *
  generalize liP zs (d4P zs (rdP zs p 1)) (d4B zs (rdP zs p 1)) = p20 at *
  clear s1 s2 hE hm4
  generalize (d4B zs (rdP zs p 1)) = F4 at *
  generalize (d4P zs (rdP zs p 1)) = Q4 at *
  generalize d4V zs (rdP zs p 1) = V4 at *
  generalize d3B zs (rdP zs p 1) = F3 at *
  generalize d3P zs (rdP zs p 1) = Q3 at *
  generalize d3V zs (rdP zs p 1) = V3 at *
  generalize d2B zs (rdP zs p 1) = F2 at *
  generalize d2P zs (rdP zs p 1) = Q2 at *
  generalize d2V zs (rdP zs p 1) = V2 at *
  generalize rdV zs (rdP zs p 1) 1 = V1 at *
  generalize rdB zs (rdP zs p 1) 1 none = F1 at *
  generalize rdP zs (rdP zs p 1) 1 = Q1 at *
  clear hR
  clear hin
  generalize rdB zs p 1 none = b1 at *
  generalize rdP zs p 1 = p1 at *
  subst hB1
  clear h hA hz hk
  go_enter Tryz.func88, Tryz.ntmps88
  go_wp2_with (first | (go_at_call 42; (with_reducible refine (n1.out).mono ?_); rintro e w1 ⟨rfl, g1, hR1⟩; have hz1 := g1.size; have hC := Hid.intro (DI.new hR1 g1 hl1 2); obtain ⟨x0, x1, x2, x3, x4, x5, x6, x7, x8, x9⟩ := rowIt hC.out.row; obtain ⟨t0, t1, t2, t3, t4, t5, t6, t7, t8, t9⟩ := rowIt hC.out.res; have tf := fun j => frozen_of_row _ w.heap.size j _ 86 hC.out.res; clear n1 hR1 g1) | (go_at_call 42; (with_reducible refine (nA.out _ hC.out.rd).mono ?_); rintro e w2 ⟨rfl, g2, hR2⟩; have hz2 := g2.size; have hD := Hid.intro (hC.out.num g2 hR2); clear x0 x1 x2 x3 x4 x5 x6 x7 x8 x9 t0 t1 t2 t3 t4 t5 t6 t7 t8 t9 tf; have f2 := fun j => frozen_of_row w2 w1.heap.size j _ 86 hD.out.row; obtain ⟨d0, d1, d2, d3, d4, d5, d6, d7, d8, d9⟩ := rowIt hD.out.row; have hD0 := Hid.intro (hD.out.set 2 (.int .i64 V1)); replace hC := hD0; clear hD ; obtain ⟨x0, x1, x2, x3, x4, x5, x6, x7, x8, x9⟩ := rowIt hC.out.row; obtain ⟨t0, t1, t2, t3, t4, t5, t6, t7, t8, t9⟩ := rowIt hC.out.res; have tf := fun j => frozen_of_row _ w.heap.size j _ 86 hC.out.res; clear g2 hR2 nA) | (go_at_call 42; (with_reducible refine (nB.out _ hC.out.rd).mono ?_); rintro e w3 ⟨rfl, g2, hR2⟩; have hz2 := g2.size; have hD := Hid.intro (hC.out.num g2 hR2); clear x0 x1 x2 x3 x4 x5 x6 x7 x8 x9 t0 t1 t2 t3 t4 t5 t6 t7 t8 t9 tf; have f2 := fun j => frozen_of_row w3 w1.heap.size j _ 86 hD.out.row; obtain ⟨d0, d1, d2, d3, d4, d5, d6, d7, d8, d9⟩ := rowIt hD.out.row; have hD0 := Hid.intro (hD.out.set 3 (.int .i64 V2)); replace hC := hD0; clear hD ; obtain ⟨x0, x1, x2, x3, x4, x5, x6, x7, x8, x9⟩ := rowIt hC.out.row; obtain ⟨t0, t1, t2, t3, t4, t5, t6, t7, t8, t9⟩ := rowIt hC.out.res; have tf := fun j => frozen_of_row _ w.heap.size j _ 86 hC.out.res; clear g2 hR2 nB) | (go_at_call 42; (with_reducible refine (nC.out _ hC.out.rd).mono ?_); rintro e w4 ⟨rfl, g2, hR2⟩; have hz2 := g2.size; have hD := Hid.intro (hC.out.num g2 hR2); clear x0 x1 x2 x3 x4 x5 x6 x7 x8 x9 t0 t1 t2 t3 t4 t5 t6 t7 t8 t9 tf; have f2 := fun j => frozen_of_row w4 w1.heap.size j _ 86 hD.out.row; obtain ⟨d0, d1, d2, d3, d4, d5, d6, d7, d8, d9⟩ := rowIt hD.out.row; have hD0 := Hid.intro (hD.out.set 4 (.int .i64 V3)); replace hC := hD0; clear hD ; obtain ⟨x0, x1, x2, x3, x4, x5, x6, x7, x8, x9⟩ := rowIt hC.out.row; obtain ⟨t0, t1, t2, t3, t4, t5, t6, t7, t8, t9⟩ := rowIt hC.out.res; have tf := fun j => frozen_of_row _ w.heap.size j _ 86 hC.out.res; clear g2 hR2 nC) | (go_at_call 42; (with_reducible refine (nD.out _ hC.out.rd).mono ?_); rintro e w5 ⟨rfl, g2, hR2⟩; have hz2 := g2.size; have hD := Hid.intro (hC.out.num g2 hR2); clear x0 x1 x2 x3 x4 x5 x6 x7 x8 x9 t0 t1 t2 t3 t4 t5 t6 t7 t8 t9 tf; have f2 := fun j => frozen_of_row w5 w1.heap.size j _ 86 hD.out.row; obtain ⟨d0, d1, d2, d3, d4, d5, d6, d7, d8, d9⟩ := rowIt hD.out.row; have hD0 := Hid.intro (hD.out.set 5 (.int .i32 (wrap32 V4))); replace hC := hD0; clear hD ; obtain ⟨x0, x1, x2, x3, x4, x5, x6, x7, x8, x9⟩ := rowIt hC.out.row; obtain ⟨t0, t1, t2, t3, t4, t5, t6, t7, t8, t9⟩ := rowIt hC.out.res; have tf := fun j => frozen_of_row _ w.heap.size j _ 86 hC.out.res; clear g2 hR2 nD) | (go_at_call 87; (with_reducible refine (n87.out _).mono ?_); rintro e w7 ⟨rfl, hb7⟩; have hz7 := hb7.size; have hD := Hid.intro (hC.out.below hb7); clear x0 x1 x2 x3 x4 x5 x6 x7 x8 x9 t0 t1 t2 t3 t4 t5 t6 t7 t8 t9 tf; replace hC := hD; clear hD; obtain ⟨x0, x1, x2, x3, x4, x5, x6, x7, x8, x9⟩ := rowIt hC.out.row; obtain ⟨t0, t1, t2, t3, t4, t5, t6, t7, t8, t9⟩ := rowIt hC.out.res; have tf := fun j => frozen_of_row _ w.heap.size j _ 86 hC.out.res; clear hb7 n87) | (go_at_call 45; (with_reducible refine (n2.out _ hC.out.rd).mono ?_); rintro e w6 ⟨v6, ts6, n6, p6, rfl, g2, ho2, hR2, hq6⟩; obtain ⟨va6, vc6, rfl⟩ := own_slice ho2; have hz6 := g2.size; have hD := Hid.intro (hC.out.num g2 hR2); clear x0 x1 x2 x3 x4 x5 x6 x7 x8 x9 t0 t1 t2 t3 t4 t5 t6 t7 t8 t9 tf; have f6 := fun j => frozen_of_row w6 w1.heap.size j _ 86 hD.out.row; obtain ⟨d0, d1, d2, d3, d4, d5, d6, d7, d8, d9⟩ := rowIt hD.out.row; have hD0 := Hid.intro (hD.out.set 7 (.slice va6 ts6.length vc6)); have f60 := fun j => frozen_of_row _ w1.heap.size j _ 86 hD0.out.row; have hD1 := Hid.intro (hD0.out.set 8 (.int .u32 n6)); have ho6 := Hid.intro (own_weaken (own_low (own_low ho2 (row_set hD.out.row 7 (.slice va6 ts6.length vc6)).2 (by simp at *; try omega)) (row_set hD0.out.row 8 (.int .u32 n6)).2 (by simp at *; try omega)) (show w.heap.size + 1 ≤ _ by simp at *; omega)); replace hC := hD1; clear hD hD0; obtain ⟨x0, x1, x2, x3, x4, x5, x6, x7, x8, x9⟩ := rowIt hC.out.row; obtain ⟨t0, t1, t2, t3, t4, t5, t6, t7, t8, t9⟩ := rowIt hC.out.res; have tf := fun j => frozen_of_row _ w.heap.size j _ 86 hC.out.res; replace hq6 := Hid.intro hq6; clear g2 hR2 ho2 n2))
  all_goals first | omega | skip
  obtain ⟨e1, e2, e3⟩ := hC.out.end (.int .i64 2) (.string ⟨#[]⟩) (.int .i64 V1) (.int .i64 V2) (.int .i64 V3) (.int .i32 (wrap32 V4)) (.int .i64 0) (.slice va6 ts6.length vc6) (.int .u32 n6) (.int .i64 0)
  obtain ⟨q0, q1, q2, q3, q4, q5, q6, q7, q8, q9⟩ := rowIt e2
  refine bodyPost_ret (by simp [results, Tryz.results88, go_sem, q0, q1, q2, q3, q4, q5, q6, q7, q8, q9]; try rfl) rfl ?_
  have hf := hfin.out ts6 n6 p6 hq6.out
  refine ⟨⟨2, [], V1, V2, V3, (wrap32 V4), 0, ⟨ts6, n6⟩, 0⟩, .slice va6 ts6.length vc6, p6, rfl, ?_, ?_, ?_, hf.2⟩
  · exact e1.1
  · exact own_weaken (own_low ho6.out e3 (by omega)) (by omega)
  · rw [hf.1]; exact e1.2
set_option maxHeartbeats 16000000 in
theorem itemD_2f (h : RD w r a c zs p none) (hk : rdV zs p 1 = 2) (hE : shE (shapeN (rdV zs (rdP zs p 1) 1)) = false) : Calls Tryz.prog 88 #[.pointer (some ⟨r, 0, none⟩)] w fun e w' => ItDo w r a c zs p e w' := by
  have hz := h.lies.1
  have hl1 := blk_lt h.blk
  have hA := Hid.intro (h.below (below_alloc w (.cells itZ 86)))
  have n1 : Hid (Calls Tryz.prog 42 #[.pointer (some ⟨r, 0, none⟩), .int .i64 1] (w.alloc (.cells itZ 86)) fun e w' => e = .returned (.int .u32 (rdV zs p 1)) ∧ (w.alloc (.cells itZ 86)).grownBy w' (some r) ∧ RD w' r a c zs (rdP zs p 1) (rdB zs p 1 none)) := numberD_is hA.out 1 (.inl rfl)
  have c1 := (four_readD hA.out.blk).2.1
  have hR : itR zs p none = (⟨2, [], cdOp zs (rdP zs p 1), cdA zs (rdP zs p 1), cdB zs (rdP zs p 1), cdM zs (rdP zs p 1), 0, ⟨cdL zs (rdP zs p 1) (rdB zs p 1 none), cdN zs (rdP zs p 1) (rdB zs p 1 none)⟩, 0⟩, cdP zs (rdP zs p 1) (rdB zs p 1 none), cdE zs (rdP zs p 1) (rdB zs p 1 none)) := by
    rw [itR, if_neg (by omega), if_pos hk]
  rw [hk] at n1
  have hB1 : rdB zs p 1 none = none := rdV_pos (by omega)
  have hin : itD zs p = (itR zs p none).2.2 := by unfold itD; rw [if_pos (by omega)]
  obtain ⟨s1, s2⟩ := code_same (zs := zs) (rdP zs p 1)
  have hv1 := ndV_wd hz (rdP zs p 1) 1 none
  have hv2 : 0 ≤ d2V zs (rdP zs p 1) ∧ d2V zs (rdP zs p 1) < 256 ^ 1 := ndV_wd hz _ 1 _
  have hv3 : 0 ≤ d3V zs (rdP zs p 1) ∧ d3V zs (rdP zs p 1) < 256 ^ 1 := ndV_wd hz _ 1 _
  have hv4 : 0 ≤ d4V zs (rdP zs p 1) ∧ d4V zs (rdP zs p 1) < 256 ^ 4 := ndV_wd hz _ 4 _
  rw [show ndV zs (rdP zs p 1) 1 none = rdV zs (rdP zs p 1) 1 from rfl] at hv1
  have hm4 := sgn4_is (rdV zs (rdP zs (rdP zs (rdP zs (rdP zs p 1) 1) 1) 1) 4) (by have := rdV_wd hz (rdP zs (rdP zs (rdP zs (rdP zs p 1) 1) 1) 1) 4; simpa using this)
  simp only [Int.reducePow] at hv1 hv2 hv3 hv4
  have nA : Hid (∀ w1, RD w1 r a c zs (rdP zs p 1) none → Calls Tryz.prog 42 #[.pointer (some ⟨r, 0, none⟩), .int .i64 1] w1 fun e w' => e = .returned (.int .u32 (rdV zs (rdP zs p 1) 1)) ∧ w1.grownBy w' (some r) ∧ RD w' r a c zs (rdP zs (rdP zs p 1) 1) (rdB zs (rdP zs p 1) 1 none)) := fun w1 h1 => numberD_is h1 1 (.inl rfl)
  have nB : Hid (∀ w1, RD w1 r a c zs (rdP zs (rdP zs p 1) 1) (rdB zs (rdP zs p 1) 1 none) → Calls Tryz.prog 42 #[.pointer (some ⟨r, 0, none⟩), .int .i64 1] w1 fun e w' => e = .returned (.int .u32 (d2V zs (rdP zs p 1))) ∧ w1.grownBy w' (some r) ∧ RD w' r a c zs (d2P zs (rdP zs p 1)) (d2B zs (rdP zs p 1))) := fun w1 h1 => numberD_is h1 1 (.inl rfl)
  have nC : Hid (∀ w1, RD w1 r a c zs (d2P zs (rdP zs p 1)) (d2B zs (rdP zs p 1)) → Calls Tryz.prog 42 #[.pointer (some ⟨r, 0, none⟩), .int .i64 1] w1 fun e w' => e = .returned (.int .u32 (d3V zs (rdP zs p 1))) ∧ w1.grownBy w' (some r) ∧ RD w' r a c zs (d3P zs (rdP zs p 1)) (d3B zs (rdP zs p 1))) := fun w1 h1 => numberD_is h1 1 (.inl rfl)
  have nD : Hid (∀ w1, RD w1 r a c zs (d3P zs (rdP zs p 1)) (d3B zs (rdP zs p 1)) → Calls Tryz.prog 42 #[.pointer (some ⟨r, 0, none⟩), .int .i64 4] w1 fun e w' => e = .returned (.int .u32 (d4V zs (rdP zs p 1))) ∧ w1.grownBy w' (some r) ∧ RD w' r a c zs (d4P zs (rdP zs p 1)) (d4B zs (rdP zs p 1))) := fun w1 h1 => numberD_is h1 4 (.inr (.inr rfl))
  have n87 := Hid.intro (fun (w1 : World) => hasE_any (rdV zs (rdP zs p 1) 1) w1)
  rw [hE] at n87
  have hfin : Hid (itD zs p = (d4B zs (rdP zs p 1)) ∧ (itD zs p = none → (⟨2, [], rdV zs (rdP zs p 1) 1, d2V zs (rdP zs p 1), d3V zs (rdP zs p 1), wrap32 (d4V zs (rdP zs p 1)), 0, linE, 0⟩ : Itm) = (itR zs p none).1 ∧ (d4P zs (rdP zs p 1)) = (itR zs p none).2.1)) := by
    show _ ∧ _
    have hE2 : shE (shapeN (cdOp zs (rdP zs p 1))) = false := hE
    have e1 : cdE zs (rdP zs p 1) none = (d4B zs (rdP zs p 1)) := by
      unfold cdE
      rw [hE2]
      rw [if_neg (by simp), s1]
    have e2 : itD zs p = cdE zs (rdP zs p 1) none := by rw [hin, hR, hB1]
    refine ⟨e2.trans e1, fun h0 => ?_⟩
    have hF : cdF zs (rdP zs p 1) none = none := by
      rw [← s1, ← e1, ← e2]
      exact h0
    obtain ⟨r1, r2, r3, r4⟩ := s2 hF
    rw [hR, hB1, r1, r2, r3]
    rw [r4]
    rw [← hm4]
    unfold cdL cdN cdP
    rw [hE2, hF]
    exact ⟨rfl, rfl⟩
  clear s1 s2 hE hm4
  generalize (d4B zs (rdP zs p 1)) = F4 at *
  generalize (d4P zs (rdP zs p 1)) = Q4 at *
  generalize d4V zs (rdP zs p 1) = V4 at *
  generalize d3B zs (rdP zs p 1) = F3 at *
  generalize d3P zs (rdP zs p 1) = Q3 at *
  generalize d3V zs (rdP zs p 1) = V3 at *
  generalize d2B zs (rdP zs p 1) = F2 at *
  generalize d2P zs (rdP zs p 1) = Q2 at *
  generalize d2V zs (rdP zs p 1) = V2 at *
  generalize rdV zs (rdP zs p 1) 1 = V1 at *
  generalize rdB zs (rdP zs p 1) 1 none = F1 at *
  generalize rdP zs (rdP zs p 1) 1 = Q1 at *
  clear hR
  clear hin
  generalize rdB zs p 1 none = b1 at *
  generalize rdP zs p 1 = p1 at *
  subst hB1
  clear h hA hz hk
  go_enter Tryz.func88, Tryz.ntmps88
  go_wp2_with (first | (go_at_call 42; (with_reducible refine (n1.out).mono ?_); rintro e w1 ⟨rfl, g1, hR1⟩; have hz1 := g1.size; have hC := Hid.intro (DI.new hR1 g1 hl1 2); obtain ⟨x0, x1, x2, x3, x4, x5, x6, x7, x8, x9⟩ := rowIt hC.out.row; obtain ⟨t0, t1, t2, t3, t4, t5, t6, t7, t8, t9⟩ := rowIt hC.out.res; have tf := fun j => frozen_of_row _ w.heap.size j _ 86 hC.out.res; clear n1 hR1 g1) | (go_at_call 42; (with_reducible refine (nA.out _ hC.out.rd).mono ?_); rintro e w2 ⟨rfl, g2, hR2⟩; have hz2 := g2.size; have hD := Hid.intro (hC.out.num g2 hR2); clear x0 x1 x2 x3 x4 x5 x6 x7 x8 x9 t0 t1 t2 t3 t4 t5 t6 t7 t8 t9 tf; have f2 := fun j => frozen_of_row w2 w1.heap.size j _ 86 hD.out.row; obtain ⟨d0, d1, d2, d3, d4, d5, d6, d7, d8, d9⟩ := rowIt hD.out.row; have hD0 := Hid.intro (hD.out.set 2 (.int .i64 V1)); replace hC := hD0; clear hD ; obtain ⟨x0, x1, x2, x3, x4, x5, x6, x7, x8, x9⟩ := rowIt hC.out.row; obtain ⟨t0, t1, t2, t3, t4, t5, t6, t7, t8, t9⟩ := rowIt hC.out.res; have tf := fun j => frozen_of_row _ w.heap.size j _ 86 hC.out.res; clear g2 hR2 nA) | (go_at_call 42; (with_reducible refine (nB.out _ hC.out.rd).mono ?_); rintro e w3 ⟨rfl, g2, hR2⟩; have hz2 := g2.size; have hD := Hid.intro (hC.out.num g2 hR2); clear x0 x1 x2 x3 x4 x5 x6 x7 x8 x9 t0 t1 t2 t3 t4 t5 t6 t7 t8 t9 tf; have f2 := fun j => frozen_of_row w3 w1.heap.size j _ 86 hD.out.row; obtain ⟨d0, d1, d2, d3, d4, d5, d6, d7, d8, d9⟩ := rowIt hD.out.row; have hD0 := Hid.intro (hD.out.set 3 (.int .i64 V2)); replace hC := hD0; clear hD ; obtain ⟨x0, x1, x2, x3, x4, x5, x6, x7, x8, x9⟩ := rowIt hC.out.row; obtain ⟨t0, t1, t2, t3, t4, t5, t6, t7, t8, t9⟩ := rowIt hC.out.res; have tf := fun j => frozen_of_row _ w.heap.size j _ 86 hC.out.res; clear g2 hR2 nB) | (go_at_call 42; (with_reducible refine (nC.out _ hC.out.rd).mono ?_); rintro e w4 ⟨rfl, g2, hR2⟩; have hz2 := g2.size; have hD := Hid.intro (hC.out.num g2 hR2); clear x0 x1 x2 x3 x4 x5 x6 x7 x8 x9 t0 t1 t2 t3 t4 t5 t6 t7 t8 t9 tf; have f2 := fun j => frozen_of_row w4 w1.heap.size j _ 86 hD.out.row; obtain ⟨d0, d1, d2, d3, d4, d5, d6, d7, d8, d9⟩ := rowIt hD.out.row; have hD0 := Hid.intro (hD.out.set 4 (.int .i64 V3)); replace hC := hD0; clear hD ; obtain ⟨x0, x1, x2, x3, x4, x5, x6, x7, x8, x9⟩ := rowIt hC.out.row; obtain ⟨t0, t1, t2, t3, t4, t5, t6, t7, t8, t9⟩ := rowIt hC.out.res; have tf := fun j => frozen_of_row _ w.heap.size j _ 86 hC.out.res; clear g2 hR2 nC) | (go_at_call 42; (with_reducible refine (nD.out _ hC.out.rd).mono ?_); rintro e w5 ⟨rfl, g2, hR2⟩; have hz2 := g2.size; have hD := Hid.intro (hC.out.num g2 hR2); clear x0 x1 x2 x3 x4 x5 x6 x7 x8 x9 t0 t1 t2 t3 t4 t5 t6 t7 t8 t9 tf; have f2 := fun j => frozen_of_row w5 w1.heap.size j _ 86 hD.out.row; obtain ⟨d0, d1, d2, d3, d4, d5, d6, d7, d8, d9⟩ := rowIt hD.out.row; have hD0 := Hid.intro (hD.out.set 5 (.int .i32 (wrap32 V4))); replace hC := hD0; clear hD ; obtain ⟨x0, x1, x2, x3, x4, x5, x6, x7, x8, x9⟩ := rowIt hC.out.row; obtain ⟨t0, t1, t2, t3, t4, t5, t6, t7, t8, t9⟩ := rowIt hC.out.res; have tf := fun j => frozen_of_row _ w.heap.size j _ 86 hC.out.res; clear g2 hR2 nD) | (go_at_call 87; (with_reducible refine (n87.out _).mono ?_); rintro e w7 ⟨rfl, hb7⟩; have hz7 := hb7.size; have hD := Hid.intro (hC.out.below hb7); clear x0 x1 x2 x3 x4 x5 x6 x7 x8 x9 t0 t1 t2 t3 t4 t5 t6 t7 t8 t9 tf; replace hC := hD; clear hD; obtain ⟨x0, x1, x2, x3, x4, x5, x6, x7, x8, x9⟩ := rowIt hC.out.row; obtain ⟨t0, t1, t2, t3, t4, t5, t6, t7, t8, t9⟩ := rowIt hC.out.res; have tf := fun j => frozen_of_row _ w.heap.size j _ 86 hC.out.res; clear hb7 n87))
  all_goals first | omega | skip
  obtain ⟨e1, e2, e3⟩ := hC.out.end (.int .i64 2) (.string ⟨#[]⟩) (.int .i64 V1) (.int .i64 V2) (.int .i64 V3) (.int .i32 (wrap32 V4)) (.int .i64 0) (.slice none 0 0) (.int .u32 0) (.int .i64 0)
  obtain ⟨q0, q1, q2, q3, q4, q5, q6, q7, q8, q9⟩ := rowIt e2
  refine bodyPost_ret (by simp [results, Tryz.results88, go_sem, q0, q1, q2, q3, q4, q5, q6, q7, q8, q9]; try rfl) rfl ?_
  refine ⟨⟨2, [], V1, V2, V3, (wrap32 V4), 0, linE, 0⟩, .slice none 0 0, _, rfl, e1.1, World.ownsRow_nil _ _ _ _, ?_, hfin.out.2⟩
  rw [hfin.out.1]
  exact e1.2
set_option maxHeartbeats 16000000 in
theorem itemD_3 (h : RD w r a c zs p none) (hk : rdV zs p 1 = 3) : Calls Tryz.prog 88 #[.pointer (some ⟨r, 0, none⟩)] w fun e w' => ItDo w r a c zs p e w' := by
  have hz := h.lies.1
  have hl1 := blk_lt h.blk
  have hA := Hid.intro (h.below (below_alloc w (.cells itZ 86)))
  have n1 : Hid (Calls Tryz.prog 42 #[.pointer (some ⟨r, 0, none⟩), .int .i64 1] (w.alloc (.cells itZ 86)) fun e w' => e = .returned (.int .u32 (rdV zs p 1)) ∧ (w.alloc (.cells itZ 86)).grownBy w' (some r) ∧ RD w' r a c zs (rdP zs p 1) (rdB zs p 1 none)) := numberD_is hA.out 1 (.inl rfl)
  have c1 := (four_readD hA.out.blk).2.1
  have hR : itR zs p none = (⟨3, [], 0, 0, 0, 0, 0, linE, rdV zs (rdP zs p 1) 2⟩, rdP zs (rdP zs p 1) 2, rdB zs (rdP zs p 1) 2 (rdB zs p 1 none)) := by
    rw [itR, if_neg (by omega), if_neg (by omega), if_pos hk]
  rw [hk] at n1
  have hB1 : rdB zs p 1 none = none := rdV_pos (by omega)
  have hin : itD zs p = (itR zs p none).2.2 := by unfold itD; rw [if_pos (by omega)]
  have hv := rdV_wd hz (rdP zs p 1) 2
  simp only [Int.reducePow] at hv
  have n2 : Hid (∀ w1, RD w1 r a c zs (rdP zs p 1) none → Calls Tryz.prog 42 #[.pointer (some ⟨r, 0, none⟩), .int .i64 2] w1 fun e w' => e = .returned (.int .u32 (rdV zs (rdP zs p 1) 2)) ∧ w1.grownBy w' (some r) ∧ RD w' r a c zs (rdP zs (rdP zs p 1) 2) (rdB zs (rdP zs p 1) 2 none)) := fun w1 h1 => numberD_is h1 2 (.inr (.inl rfl))
  have hfin : Hid (itD zs p = rdB zs (rdP zs p 1) 2 none ∧ (itD zs p = none → (⟨3, [], 0, 0, 0, 0, 0, linE, rdV zs (rdP zs p 1) 2⟩ : Itm) = (itR zs p none).1 ∧ rdP zs (rdP zs p 1) 2 = (itR zs p none).2.1)) := by
    rw [hin, hR, hB1]
    exact ⟨rfl, fun _ => ⟨rfl, rfl⟩⟩
  generalize rdV zs (rdP zs p 1) 2 = N at *
  generalize rdB zs (rdP zs p 1) 2 none = b2 at *
  generalize rdP zs (rdP zs p 1) 2 = p2 at *
  clear hR
  clear hin
  generalize rdB zs p 1 none = b1 at *
  generalize rdP zs p 1 = p1 at *
  subst hB1
  clear h hA hz hk
  go_enter Tryz.func88, Tryz.ntmps88
  go_wp2_with (first | (go_at_call 42; (with_reducible refine (n1.out).mono ?_); rintro e w1 ⟨rfl, g1, hR1⟩; have hz1 := g1.size; have hC := Hid.intro (DI.new hR1 g1 hl1 3); obtain ⟨x0, x1, x2, x3, x4, x5, x6, x7, x8, x9⟩ := rowIt hC.out.row; obtain ⟨t0, t1, t2, t3, t4, t5, t6, t7, t8, t9⟩ := rowIt hC.out.res; have tf := fun j => frozen_of_row _ w.heap.size j _ 86 hC.out.res; clear n1 hR1 g1) | (go_at_call 42; (with_reducible refine (n2.out _ hC.out.rd).mono ?_); rintro e w2 ⟨rfl, g2, hR2⟩; have hz2 := g2.size; have hD := Hid.intro (hC.out.num g2 hR2); clear x0 x1 x2 x3 x4 x5 x6 x7 x8 x9 t0 t1 t2 t3 t4 t5 t6 t7 t8 t9 tf; have f2 := fun j => frozen_of_row w2 w1.heap.size j _ 86 hD.out.row; obtain ⟨d0, d1, d2, d3, d4, d5, d6, d7, d8, d9⟩ := rowIt hD.out.row; have hD0 := Hid.intro (hD.out.set 9 (.int .i64 N)); replace hC := hD0; clear hD ; obtain ⟨x0, x1, x2, x3, x4, x5, x6, x7, x8, x9⟩ := rowIt hC.out.row; obtain ⟨t0, t1, t2, t3, t4, t5, t6, t7, t8, t9⟩ := rowIt hC.out.res; have tf := fun j => frozen_of_row _ w.heap.size j _ 86 hC.out.res; clear g2 hR2 n2))
  all_goals first | omega | skip
  obtain ⟨e1, e2, e3⟩ := hC.out.end (.int .i64 3) (.string ⟨#[]⟩) (.int .i64 0) (.int .i64 0) (.int .i64 0) (.int .i32 0) (.int .i64 0) (.slice none 0 0) (.int .u32 0) (.int .i64 N)
  obtain ⟨q0, q1, q2, q3, q4, q5, q6, q7, q8, q9⟩ := rowIt e2
  refine bodyPost_ret (by simp [results, Tryz.results88, go_sem, q0, q1, q2, q3, q4, q5, q6, q7, q8, q9]; try rfl) rfl ?_
  refine ⟨⟨3, [], 0, 0, 0, 0, 0, linE, N⟩, .slice none 0 0, _, rfl, e1.1, World.ownsRow_nil _ _ _ _, ?_, hfin.out.2⟩
  rw [hfin.out.1]
  exact e1.2
set_option maxHeartbeats 16000000 in
theorem itemD_4 (h : RD w r a c zs p none) (hk : rdV zs p 1 = 4) : Calls Tryz.prog 88 #[.pointer (some ⟨r, 0, none⟩)] w fun e w' => ItDo w r a c zs p e w' := by
  have hz := h.lies.1
  have hl1 := blk_lt h.blk
  have hA := Hid.intro (h.below (below_alloc w (.cells itZ 86)))
  have n1 : Hid (Calls Tryz.prog 42 #[.pointer (some ⟨r, 0, none⟩), .int .i64 1] (w.alloc (.cells itZ 86)) fun e w' => e = .returned (.int .u32 (rdV zs p 1)) ∧ (w.alloc (.cells itZ 86)).grownBy w' (some r) ∧ RD w' r a c zs (rdP zs p 1) (rdB zs p 1 none)) := numberD_is hA.out 1 (.inl rfl)
  have c1 := (four_readD hA.out.blk).2.1
  have hR : itR zs p none = (⟨rdV zs p 1, [], 0, 0, 0, 0, 0, linE, 0⟩, rdP zs p 1, rdB zs p 1 none) := by
    rw [itR, if_neg (by omega), if_neg (by omega), if_neg (by omega), if_neg (by omega), if_neg (by omega), if_neg (by omega)]
  rw [hk] at n1
  have hB1 : rdB zs p 1 none = none := rdV_pos (by omega)
  have hin : itD zs p = (itR zs p none).2.2 := by unfold itD; rw [if_pos (by omega)]
  have hfin : Hid (itD zs p = none ∧ (itD zs p = none → (⟨4, [], 0, 0, 0, 0, 0, linE, 0⟩ : Itm) = (itR zs p none).1 ∧ rdP zs p 1 = (itR zs p none).2.1)) := by
    rw [hin, hR, hB1, hk]
    exact ⟨rfl, fun _ => ⟨rfl, rfl⟩⟩
  clear hR
  clear hin
  generalize rdB zs p 1 none = b1 at *
  generalize rdP zs p 1 = p1 at *
  subst hB1
  clear h hA hz hk
  go_enter Tryz.func88, Tryz.ntmps88
  go_wp2_with (first | (go_at_call 42; (with_reducible refine (n1.out).mono ?_); rintro e w1 ⟨rfl, g1, hR1⟩; have hz1 := g1.size; have hC := Hid.intro (DI.new hR1 g1 hl1 4); obtain ⟨x0, x1, x2, x3, x4, x5, x6, x7, x8, x9⟩ := rowIt hC.out.row; obtain ⟨t0, t1, t2, t3, t4, t5, t6, t7, t8, t9⟩ := rowIt hC.out.res; have tf := fun j => frozen_of_row _ w.heap.size j _ 86 hC.out.res; clear n1 hR1 g1))
  all_goals first | omega | skip
  obtain ⟨e1, e2, e3⟩ := hC.out.end (.int .i64 4) (.string ⟨#[]⟩) (.int .i64 0) (.int .i64 0) (.int .i64 0) (.int .i32 0) (.int .i64 0) (.slice none 0 0) (.int .u32 0) (.int .i64 0)
  obtain ⟨q0, q1, q2, q3, q4, q5, q6, q7, q8, q9⟩ := rowIt e2
  refine bodyPost_ret (by simp [results, Tryz.results88, go_sem, q0, q1, q2, q3, q4, q5, q6, q7, q8, q9]; try rfl) rfl ?_
  refine ⟨⟨4, [], 0, 0, 0, 0, 0, linE, 0⟩, .slice none 0 0, _, rfl, e1.1, World.ownsRow_nil _ _ _ _, ?_, hfin.out.2⟩
  rw [hfin.out.1]
  exact e1.2
set_option maxHeartbeats 16000000 in
theorem itemD_5 (h : RD w r a c zs p none) (hk : rdV zs p 1 = 5) : Calls Tryz.prog 88 #[.pointer (some ⟨r, 0, none⟩)] w fun e w' => ItDo w r a c zs p e w' := by
  have hz := h.lies.1
  have hl1 := blk_lt h.blk
  have hA := Hid.intro (h.below (below_alloc w (.cells itZ 86)))
  have n1 : Hid (Calls Tryz.prog 42 #[.pointer (some ⟨r, 0, none⟩), .int .i64 1] (w.alloc (.cells itZ 86)) fun e w' => e = .returned (.int .u32 (rdV zs p 1)) ∧ (w.alloc (.cells itZ 86)).grownBy w' (some r) ∧ RD w' r a c zs (rdP zs p 1) (rdB zs p 1 none)) := numberD_is hA.out 1 (.inl rfl)
  have c1 := (four_readD hA.out.blk).2.1
  have hR : itR zs p none = (⟨5, [], 0, 0, 0, 0, 0, linE, O.sgn (rdV zs (rdP zs p 1) 2) 2⟩, rdP zs (rdP zs p 1) 2, rdB zs (rdP zs p 1) 2 (rdB zs p 1 none)) := by
    rw [itR, if_neg (by omega), if_neg (by omega), if_neg (by omega), if_pos hk]
  rw [hk] at n1
  have hB1 : rdB zs p 1 none = none := rdV_pos (by omega)
  have hin : itD zs p = (itR zs p none).2.2 := by unfold itD; rw [if_pos (by omega)]
  have hv := rdV_wd hz (rdP zs p 1) 2
  simp only [Int.reducePow] at hv
  have n2 : Hid (∀ w1, RD w1 r a c zs (rdP zs p 1) none → Calls Tryz.prog 42 #[.pointer (some ⟨r, 0, none⟩), .int .i64 2] w1 fun e w' => e = .returned (.int .u32 (rdV zs (rdP zs p 1) 2)) ∧ w1.grownBy w' (some r) ∧ RD w' r a c zs (rdP zs (rdP zs p 1) 2) (rdB zs (rdP zs p 1) 2 none)) := fun w1 h1 => numberD_is h1 2 (.inr (.inl rfl))
  have hfin : Hid (itD zs p = rdB zs (rdP zs p 1) 2 none ∧ (itD zs p = none → (⟨5, [], 0, 0, 0, 0, 0, linE, O.sgn (rdV zs (rdP zs p 1) 2) 2⟩ : Itm) = (itR zs p none).1 ∧ rdP zs (rdP zs p 1) 2 = (itR zs p none).2.1)) := by
    rw [hin, hR, hB1]
    exact ⟨rfl, fun _ => ⟨rfl, rfl⟩⟩
  rw [sgn2_is] at hfin
  generalize rdV zs (rdP zs p 1) 2 = N at *
  generalize rdB zs (rdP zs p 1) 2 none = b2 at *
  generalize rdP zs (rdP zs p 1) 2 = p2 at *
  clear hR
  clear hin
  generalize rdB zs p 1 none = b1 at *
  generalize rdP zs p 1 = p1 at *
  subst hB1
  clear h hA hz hk
  go_enter Tryz.func88, Tryz.ntmps88
  go_wp2_with (first | (go_at_call 42; (with_reducible refine (n1.out).mono ?_); rintro e w1 ⟨rfl, g1, hR1⟩; have hz1 := g1.size; have hC := Hid.intro (DI.new hR1 g1 hl1 5); obtain ⟨x0, x1, x2, x3, x4, x5, x6, x7, x8, x9⟩ := rowIt hC.out.row; obtain ⟨t0, t1, t2, t3, t4, t5, t6, t7, t8, t9⟩ := rowIt hC.out.res; have tf := fun j => frozen_of_row _ w.heap.size j _ 86 hC.out.res; clear n1 hR1 g1) | (go_at_call 42; (with_reducible refine (n2.out _ hC.out.rd).mono ?_); rintro e w2 ⟨rfl, g2, hR2⟩; have hz2 := g2.size; have hD := Hid.intro (hC.out.num g2 hR2); clear x0 x1 x2 x3 x4 x5 x6 x7 x8 x9 t0 t1 t2 t3 t4 t5 t6 t7 t8 t9 tf; have f2 := fun j => frozen_of_row w2 w1.heap.size j _ 86 hD.out.row; obtain ⟨d0, d1, d2, d3, d4, d5, d6, d7, d8, d9⟩ := rowIt hD.out.row; have hD0 := Hid.intro (hD.out.set 9 (.int .i64 (wrap64 (IntKind.i16.wrap N)))); replace hC := hD0; clear hD ; obtain ⟨x0, x1, x2, x3, x4, x5, x6, x7, x8, x9⟩ := rowIt hC.out.row; obtain ⟨t0, t1, t2, t3, t4, t5, t6, t7, t8, t9⟩ := rowIt hC.out.res; have tf := fun j => frozen_of_row _ w.heap.size j _ 86 hC.out.res; clear g2 hR2 n2))
  all_goals first | omega | skip
  obtain ⟨e1, e2, e3⟩ := hC.out.end (.int .i64 5) (.string ⟨#[]⟩) (.int .i64 0) (.int .i64 0) (.int .i64 0) (.int .i32 0) (.int .i64 0) (.slice none 0 0) (.int .u32 0) (.int .i64 (wrap64 (IntKind.i16.wrap N)))
  obtain ⟨q0, q1, q2, q3, q4, q5, q6, q7, q8, q9⟩ := rowIt e2
  refine bodyPost_ret (by simp [results, Tryz.results88, go_sem, q0, q1, q2, q3, q4, q5, q6, q7, q8, q9]; try rfl) rfl ?_
  refine ⟨⟨5, [], 0, 0, 0, 0, 0, linE, (wrap64 (IntKind.i16.wrap N))⟩, .slice none 0 0, _, rfl, e1.1, World.ownsRow_nil _ _ _ _, ?_, hfin.out.2⟩
  rw [hfin.out.1]
  exact e1.2
set_option maxHeartbeats 16000000 in
theorem itemD_6 (h : RD w r a c zs p none) (hk : rdV zs p 1 = 6) : Calls Tryz.prog 88 #[.pointer (some ⟨r, 0, none⟩)] w fun e w' => ItDo w r a c zs p e w' := by
  have hz := h.lies.1
  have hl1 := blk_lt h.blk
  have hA := Hid.intro (h.below (below_alloc w (.cells itZ 86)))
  have n1 : Hid (Calls Tryz.prog 42 #[.pointer (some ⟨r, 0, none⟩), .int .i64 1] (w.alloc (.cells itZ 86)) fun e w' => e = .returned (.int .u32 (rdV zs p 1)) ∧ (w.alloc (.cells itZ 86)).grownBy w' (some r) ∧ RD w' r a c zs (rdP zs p 1) (rdB zs p 1 none)) := numberD_is hA.out 1 (.inl rfl)
  have c1 := (four_readD hA.out.blk).2.1
  have hR : itR zs p none = (⟨6, [], 0, 0, 0, 0, 0, ⟨liL zs (rdP zs p 1) (rdB zs p 1 none), liN zs (rdP zs p 1) (rdB zs p 1 none)⟩, 0⟩, liP zs (rdP zs p 1) (rdB zs p 1 none), liB zs (rdP zs p 1) (rdB zs p 1 none)) := by
    rw [itR, if_neg (by omega), if_neg (by omega), if_neg (by omega), if_neg (by omega), if_pos hk]
  rw [hk] at n1
  have hB1 : rdB zs p 1 none = none := rdV_pos (by omega)
  have hin : itD zs p = (itR zs p none).2.2 := by unfold itD; rw [if_pos (by omega)]
  have n2 : Hid (∀ w1, RD w1 r a c zs (rdP zs p 1) none → Calls Tryz.prog 45 #[.pointer (some ⟨r, 0, none⟩)] w1 fun e w' => LiOut w1 r a c zs (rdP zs p 1) none e w') := fun w1 h1 => linD_is h1
  unfold LiOut at n2
  have hfin : Hid (∀ ts n p', (liB zs (rdP zs p 1) none = none → ts = liL zs (rdP zs p 1) none ∧ n = liN zs (rdP zs p 1) none ∧ p' = liP zs (rdP zs p 1) none) → itD zs p = liB zs (rdP zs p 1) none ∧ (itD zs p = none → (⟨6, [], 0, 0, 0, 0, 0, ⟨ts, n⟩, 0⟩ : Itm) = (itR zs p none).1 ∧ p' = (itR zs p none).2.1)) := fun ts n p' hh => by
    rw [hin, hR, hB1]
    refine ⟨rfl, fun h0 => ?_⟩
    obtain ⟨h1, h2, h3⟩ := hh h0
    rw [h1, h2, h3]
    exact ⟨rfl, rfl⟩
  generalize liL zs (rdP zs p 1) none = L0 at *
  generalize liN zs (rdP zs p 1) none = Ln0 at *
  generalize liB zs (rdP zs p 1) none = b2 at *
  generalize liP zs (rdP zs p 1) none = p20 at *
  clear hR
  clear hin
  generalize rdB zs p 1 none = b1 at *
  generalize rdP zs p 1 = p1 at *
  subst hB1
  clear h hA hz hk
  go_enter Tryz.func88, Tryz.ntmps88
  go_wp2_with (first | (go_at_call 42; (with_reducible refine (n1.out).mono ?_); rintro e w1 ⟨rfl, g1, hR1⟩; have hz1 := g1.size; have hC := Hid.intro (DI.new hR1 g1 hl1 6); obtain ⟨x0, x1, x2, x3, x4, x5, x6, x7, x8, x9⟩ := rowIt hC.out.row; obtain ⟨t0, t1, t2, t3, t4, t5, t6, t7, t8, t9⟩ := rowIt hC.out.res; have tf := fun j => frozen_of_row _ w.heap.size j _ 86 hC.out.res; clear n1 hR1 g1) | (go_at_call 45; (with_reducible refine (n2.out _ hC.out.rd).mono ?_); rintro e w6 ⟨v6, ts6, n6, p6, rfl, g2, ho2, hR2, hq6⟩; obtain ⟨va6, vc6, rfl⟩ := own_slice ho2; have hz6 := g2.size; have hD := Hid.intro (hC.out.num g2 hR2); clear x0 x1 x2 x3 x4 x5 x6 x7 x8 x9 t0 t1 t2 t3 t4 t5 t6 t7 t8 t9 tf; have f6 := fun j => frozen_of_row w6 w1.heap.size j _ 86 hD.out.row; obtain ⟨d0, d1, d2, d3, d4, d5, d6, d7, d8, d9⟩ := rowIt hD.out.row; have hD0 := Hid.intro (hD.out.set 7 (.slice va6 ts6.length vc6)); have f60 := fun j => frozen_of_row _ w1.heap.size j _ 86 hD0.out.row; have hD1 := Hid.intro (hD0.out.set 8 (.int .u32 n6)); have ho6 := Hid.intro (own_weaken (own_low (own_low ho2 (row_set hD.out.row 7 (.slice va6 ts6.length vc6)).2 (by simp at *; try omega)) (row_set hD0.out.row 8 (.int .u32 n6)).2 (by simp at *; try omega)) (show w.heap.size + 1 ≤ _ by simp at *; omega)); replace hC := hD1; clear hD hD0; obtain ⟨x0, x1, x2, x3, x4, x5, x6, x7, x8, x9⟩ := rowIt hC.out.row; obtain ⟨t0, t1, t2, t3, t4, t5, t6, t7, t8, t9⟩ := rowIt hC.out.res; have tf := fun j => frozen_of_row _ w.heap.size j _ 86 hC.out.res; replace hq6 := Hid.intro hq6; clear g2 hR2 ho2 n2))
  all_goals first | omega | skip
  obtain ⟨e1, e2, e3⟩ := hC.out.end (.int .i64 6) (.string ⟨#[]⟩) (.int .i64 0) (.int .i64 0) (.int .i64 0) (.int .i32 0) (.int .i64 0) (.slice va6 ts6.length vc6) (.int .u32 n6) (.int .i64 0)
  obtain ⟨q0, q1, q2, q3, q4, q5, q6, q7, q8, q9⟩ := rowIt e2
  refine bodyPost_ret (by simp [results, Tryz.results88, go_sem, q0, q1, q2, q3, q4, q5, q6, q7, q8, q9]; try rfl) rfl ?_
  have hf := hfin.out ts6 n6 p6 hq6.out
  refine ⟨⟨6, [], 0, 0, 0, 0, 0, ⟨ts6, n6⟩, 0⟩, .slice va6 ts6.length vc6, p6, rfl, ?_, ?_, ?_, hf.2⟩
  · exact e1.1
  · exact own_weaken (own_low ho6.out e3 (by omega)) (by omega)
  · rw [hf.1]; exact e1.2
set_option maxHeartbeats 16000000 in
theorem itemD_7 (h : RD w r a c zs p none) (hk : rdV zs p 1 = 7) : Calls Tryz.prog 88 #[.pointer (some ⟨r, 0, none⟩)] w fun e w' => ItDo w r a c zs p e w' := by
  have hz := h.lies.1
  have hl1 := blk_lt h.blk
  have hA := Hid.intro (h.below (below_alloc w (.cells itZ 86)))
  have n1 : Hid (Calls Tryz.prog 42 #[.pointer (some ⟨r, 0, none⟩), .int .i64 1] (w.alloc (.cells itZ 86)) fun e w' => e = .returned (.int .u32 (rdV zs p 1)) ∧ (w.alloc (.cells itZ 86)).grownBy w' (some r) ∧ RD w' r a c zs (rdP zs p 1) (rdB zs p 1 none)) := numberD_is hA.out 1 (.inl rfl)
  have c1 := (four_readD hA.out.blk).2.1
  have hR : itR zs p none = (⟨7, [], 0, 0, 0, 0, 0, linE, rdV zs (rdP zs p 1) 4⟩, rdP zs (rdP zs p 1) 4, rdB zs (rdP zs p 1) 4 (rdB zs p 1 none)) := by
    rw [itR, if_neg (by omega), if_neg (by omega), if_neg (by omega), if_neg (by omega), if_neg (by omega), if_pos hk]
  rw [hk] at n1
  have hB1 : rdB zs p 1 none = none := rdV_pos (by omega)
  have hin : itD zs p = (itR zs p none).2.2 := by unfold itD; rw [if_pos (by omega)]
  have hv := rdV_wd hz (rdP zs p 1) 4
  simp only [Int.reducePow] at hv
  have n2 : Hid (∀ w1, RD w1 r a c zs (rdP zs p 1) none → Calls Tryz.prog 42 #[.pointer (some ⟨r, 0, none⟩), .int .i64 4] w1 fun e w' => e = .returned (.int .u32 (rdV zs (rdP zs p 1) 4)) ∧ w1.grownBy w' (some r) ∧ RD w' r a c zs (rdP zs (rdP zs p 1) 4) (rdB zs (rdP zs p 1) 4 none)) := fun w1 h1 => numberD_is h1 4 (.inr (.inr rfl))
  have hfin : Hid (itD zs p = rdB zs (rdP zs p 1) 4 none ∧ (itD zs p = none → (⟨7, [], 0, 0, 0, 0, 0, linE, rdV zs (rdP zs p 1) 4⟩ : Itm) = (itR zs p none).1 ∧ rdP zs (rdP zs p 1) 4 = (itR zs p none).2.1)) := by
    rw [hin, hR, hB1]
    exact ⟨rfl, fun _ => ⟨rfl, rfl⟩⟩
  generalize rdV zs (rdP zs p 1) 4 = N at *
  generalize rdB zs (rdP zs p 1) 4 none = b2 at *
  generalize rdP zs (rdP zs p 1) 4 = p2 at *
  clear hR
  clear hin
  generalize rdB zs p 1 none = b1 at *
  generalize rdP zs p 1 = p1 at *
  subst hB1
  clear h hA hz hk
  go_enter Tryz.func88, Tryz.ntmps88
  go_wp2_with (first | (go_at_call 42; (with_reducible refine (n1.out).mono ?_); rintro e w1 ⟨rfl, g1, hR1⟩; have hz1 := g1.size; have hC := Hid.intro (DI.new hR1 g1 hl1 7); obtain ⟨x0, x1, x2, x3, x4, x5, x6, x7, x8, x9⟩ := rowIt hC.out.row; obtain ⟨t0, t1, t2, t3, t4, t5, t6, t7, t8, t9⟩ := rowIt hC.out.res; have tf := fun j => frozen_of_row _ w.heap.size j _ 86 hC.out.res; clear n1 hR1 g1) | (go_at_call 42; (with_reducible refine (n2.out _ hC.out.rd).mono ?_); rintro e w2 ⟨rfl, g2, hR2⟩; have hz2 := g2.size; have hD := Hid.intro (hC.out.num g2 hR2); clear x0 x1 x2 x3 x4 x5 x6 x7 x8 x9 t0 t1 t2 t3 t4 t5 t6 t7 t8 t9 tf; have f2 := fun j => frozen_of_row w2 w1.heap.size j _ 86 hD.out.row; obtain ⟨d0, d1, d2, d3, d4, d5, d6, d7, d8, d9⟩ := rowIt hD.out.row; have hD0 := Hid.intro (hD.out.set 9 (.int .i64 N)); replace hC := hD0; clear hD ; obtain ⟨x0, x1, x2, x3, x4, x5, x6, x7, x8, x9⟩ := rowIt hC.out.row; obtain ⟨t0, t1, t2, t3, t4, t5, t6, t7, t8, t9⟩ := rowIt hC.out.res; have tf := fun j => frozen_of_row _ w.heap.size j _ 86 hC.out.res; clear g2 hR2 n2))
  all_goals first | omega | skip
  obtain ⟨e1, e2, e3⟩ := hC.out.end (.int .i64 7) (.string ⟨#[]⟩) (.int .i64 0) (.int .i64 0) (.int .i64 0) (.int .i32 0) (.int .i64 0) (.slice none 0 0) (.int .u32 0) (.int .i64 N)
  obtain ⟨q0, q1, q2, q3, q4, q5, q6, q7, q8, q9⟩ := rowIt e2
  refine bodyPost_ret (by simp [results, Tryz.results88, go_sem, q0, q1, q2, q3, q4, q5, q6, q7, q8, q9]; try rfl) rfl ?_
  refine ⟨⟨7, [], 0, 0, 0, 0, 0, linE, N⟩, .slice none 0 0, _, rfl, e1.1, World.ownsRow_nil _ _ _ _, ?_, hfin.out.2⟩
  rw [hfin.out.1]
  exact e1.2
set_option maxHeartbeats 16000000 in
theorem itemD_o (h : RD w r a c zs p none) (k1 : rdV zs p 1 ≠ 1) (k2 : rdV zs p 1 ≠ 2) (k3 : rdV zs p 1 ≠ 3) (k4 : rdV zs p 1 ≠ 4) (k5 : rdV zs p 1 ≠ 5) (k6 : rdV zs p 1 ≠ 6) (k7 : rdV zs p 1 ≠ 7) : Calls Tryz.prog 88 #[.pointer (some ⟨r, 0, none⟩)] w fun e w' => ItDo w r a c zs p e w' := by
  have hz := h.lies.1
  have hl1 := blk_lt h.blk
  have hA := Hid.intro (h.below (below_alloc w (.cells itZ 86)))
  have n1 : Hid (Calls Tryz.prog 42 #[.pointer (some ⟨r, 0, none⟩), .int .i64 1] (w.alloc (.cells itZ 86)) fun e w' => e = .returned (.int .u32 (rdV zs p 1)) ∧ (w.alloc (.cells itZ 86)).grownBy w' (some r) ∧ RD w' r a c zs (rdP zs p 1) (rdB zs p 1 none)) := numberD_is hA.out 1 (.inl rfl)
  have c1 := (four_readD hA.out.blk).2.1
  have hR : itR zs p none = (⟨rdV zs p 1, [], 0, 0, 0, 0, 0, linE, 0⟩, rdP zs p 1, rdB zs p 1 none) := by
    rw [itR, if_neg (by omega), if_neg (by omega), if_neg (by omega), if_neg (by omega), if_neg (by omega), if_neg (by omega)]
  have hfin : Hid (itD zs p = firstR (rdB zs p 1 none) ((p : Int), 31) ∧ (itD zs p = none → (⟨rdV zs p 1, [], 0, 0, 0, 0, 0, linE, 0⟩ : Itm) = (itR zs p none).1 ∧ rdP zs p 1 = (itR zs p none).2.1)) := by
    have h1 : itD zs p = firstR (rdB zs p 1 none) ((p : Int), 31) := by unfold itD; rw [if_neg (by omega)]
    refine ⟨h1, fun h0 => ?_⟩
    rw [hR]
    exact ⟨rfl, rfl⟩
  have n2 : Hid (∀ w1 P B, RD w1 r a c zs P B → Calls Tryz.prog 43 #[.pointer (some ⟨r, 0, none⟩), .int .i64 (p : Int), .int .i64 31] w1 fun e w' => e = .returned (.tuple #[]) ∧ w1.grownBy w' (some r) ∧ RD w' r a c zs P (firstR B ((p : Int), 31))) := fun w1 P B h1 => refuseD_is h1 (p : Int) 31 (by decide)
  have hv := rdV_wd hz p 1
  simp only [Int.reducePow] at hv
  generalize rdV zs p 1 = k0 at *
  have q1 : (k0 == 1) = false := by simp [k1]
  have q2 : (k0 == 2) = false := by simp [k2]
  have q3 : (k0 == 3) = false := by simp [k3]
  have q4 : (k0 == 4) = false := by simp [k4]
  have q5 : (k0 == 5) = false := by simp [k5]
  have q6 : (k0 == 6) = false := by simp [k6]
  have q7 : (k0 == 7) = false := by simp [k7]
  clear hR
  generalize rdB zs p 1 none = b1 at *
  generalize rdP zs p 1 = p1 at *
  clear h hA hz
  go_enter Tryz.func88, Tryz.ntmps88
  go_wp2_with (first | (go_at_call 42; (with_reducible refine (n1.out).mono ?_); rintro e w1 ⟨rfl, g1, hR1⟩; have hz1 := g1.size; have hC := Hid.intro (DI.new hR1 g1 hl1 k0); obtain ⟨x0, x1, x2, x3, x4, x5, x6, x7, x8, x9⟩ := rowIt hC.out.row; obtain ⟨t0, t1, t2, t3, t4, t5, t6, t7, t8, t9⟩ := rowIt hC.out.res; have tf := fun j => frozen_of_row _ w.heap.size j _ 86 hC.out.res; clear n1 hR1 g1) | (go_at_call 43; (with_reducible refine (n2.out _ _ _ hC.out.rd).mono ?_); rintro e w2 ⟨rfl, g2, hR2⟩; have hD := Hid.intro (hC.out.num g2 hR2); clear x0 x1 x2 x3 x4 x5 x6 x7 x8 x9 t0 t1 t2 t3 t4 t5 t6 t7 t8 t9 tf; replace hC := hD; clear hD; obtain ⟨x0, x1, x2, x3, x4, x5, x6, x7, x8, x9⟩ := rowIt hC.out.row; obtain ⟨t0, t1, t2, t3, t4, t5, t6, t7, t8, t9⟩ := rowIt hC.out.res; have tf := fun j => frozen_of_row _ w.heap.size j _ 86 hC.out.res; clear g2 hR2 n2))
  all_goals first | omega | skip
  obtain ⟨e1, e2, e3⟩ := hC.out.end (.int .i64 k0) (.string ⟨#[]⟩) (.int .i64 0) (.int .i64 0) (.int .i64 0) (.int .i32 0) (.int .i64 0) (.slice none 0 0) (.int .u32 0) (.int .i64 0)
  obtain ⟨q0, q1, q2, q3, q4, q5, q6, q7, q8, q9⟩ := rowIt e2
  refine bodyPost_ret (by simp [results, Tryz.results88, go_sem, q0, q1, q2, q3, q4, q5, q6, q7, q8, q9]; try rfl) rfl ?_
  refine ⟨⟨k0, [], 0, 0, 0, 0, 0, linE, 0⟩, .slice none 0 0, _, rfl, e1.1, World.ownsRow_nil _ _ _ _, ?_, hfin.out.2⟩
  rw [hfin.out.1]
  exact e1.2
theorem itemD_is (h : RD w r a c zs p none) : Calls Tryz.prog 88 #[.pointer (some ⟨r, 0, none⟩)] w fun e w' => ItDo w r a c zs p e w' := by
  by_cases k1 : rdV zs p 1 = 1
  · exact itemD_1 h k1
  by_cases k2 : rdV zs p 1 = 2
  · cases hE : shE (shapeN (rdV zs (rdP zs p 1) 1)) with
    | true => exact itemD_2t h k2 hE
    | false => exact itemD_2f h k2 hE
  by_cases k3 : rdV zs p 1 = 3
  · exact itemD_3 h k3
  by_cases k4 : rdV zs p 1 = 4
  · exact itemD_4 h k4
  by_cases k5 : rdV zs p 1 = 5
  · exact itemD_5 h k5
  by_cases k6 : rdV zs p 1 = 6
  · exact itemD_6 h k6
  by_cases k7 : rdV zs p 1 = 7
  · exact itemD_7 h k7
  exact itemD_o h k1 k2 k3 k4 k5 k6 k7
end
end Go.Proofs.YtmndccbeddaphaaGreatDoor
