/- PROVED: chapter 8's runs, each read by the program and by the document alike (spandrellaw8.ItemNumbers returns true). No condition but the listed tables as the program's text lays them. -/
import Derived.Test.YtlkmegchaeokgaaGreatDoorK5
import Derived.Test.YtlkmegchaeokgaaGreatDoorG5
import Derived.Test.YtlkmegchaeokgaaGreatDoorQuietB
import Derived.Deep.QuietTactic
import Derived.Test.YtlkmegchaeokgaaGreatDoorSpec2
import Derived.Test.YtlkmegchaeokgaaGreatDoorRefLn
import Derived.Test.YtlkmegchaeokgaaGreatDoorIFrame
import Derived.ShutString
import Derived.ChangeOld
import Derived.JoinedCond
/- The law's read, of any line that both parse. -/
namespace Go.Proofs.YtlkmegchaeokgaaGreatDoor
open Go.ChangeShapes Go.WideShapes Go.ChangeAt Go.RowKit
set_option linter.unusedVariables false
set_option maxRecDepth 100000
structure Told2 (L : Ln) (sec : Int) (R : Except Int Thg) : Prop where
 prog : ∀ w a c, Tab w -> ArgsIn w.heap.size w a L.args -> Calls Tryz.prog 17 #[.agg #[.string (str L.label), .string (str L.op), .slice a L.args.length c], .int .i64 sec] w fun e w' => Below w.heap.size w w' /\ ThOut w' R e
 doc : ∀ w a c, RArgsIn w.heap.size w a L.args -> Calls Tryz.prog 29 #[.agg #[.string (str L.label), .string (str L.op), .slice a L.args.length c], .int .i64 sec] w fun e w' => Below w.heap.size w w' /\ ThOut w' R e
def KOut2 (w' : World) (R : Except Int Thg) (e : Ending) : Prop :=
 match R with
 | .error k => e = .returned (.tuple #[thgZ, .int .i64 k, thgZ, .int .i64 k, .bool true])
 | .ok t => ∃ ai ni ci va n vc bi mi di vb m vd, e = .returned (.tuple #[thgV t.kind (.slice ai ni ci) t.name (.slice va n vc) t.e.const t.sec, .int .i64 0, thgV t.kind (.slice bi mi di) t.name (.slice vb m vd) t.e.const t.sec, .int .i64 0, .bool true]) /\ ItemsLie w' (.slice ai ni ci) t.items /\ n = t.e.terms.length /\ TmLies w' va t.e.terms /\ ItemsLie w' (.slice bi mi di) t.items /\ m = t.e.terms.length /\ TmLies w' vb t.e.terms
set_option maxHeartbeats 2000000 in
theorem readN (s : ByteArray) (L : Ln) (sec : Int) (R : Except Int Thg) (hL : Lined s L) (hR : Told2 L sec R) (hk : ∀ k, R = .error k -> k ≠ 0) (w : World) (hT : Tab w) :
  Calls Tryz.prog 11 #[.string s, .int .i64 sec] w fun e w' => Below w.heap.size w w' /\ KOut2 w' R e := by
 have hS0 := Hid.intro (kst_new hT)
 have hLH := Hid.intro hL
 have hRH := Hid.intro hR
 clear hL hR hT
 obtain ⟨n0, hn0⟩ : ∃ n0, n0 = L.args.length := ⟨_, rfl⟩
 go_enter Tryz.func11, Tryz.ntmps11
 go_upto_region 3 with (first
  | (go_at_call 16; (with_reducible refine (hLH.out.prog _).mono ?_); rintro e w1 ⟨hb1, a, c, rfl, hA1⟩)
  | (go_at_call 28; (with_reducible refine (hLH.out.doc _).mono ?_); rintro e w2 ⟨hb2, a2, c2, rfl, hA2⟩))
 all_goals first | omega | skip
 have hK := kln_new (c := c) (c2 := c2) hS0.out hb1 hA1 hb2 hA2
 obtain ⟨g, hg⟩ : ∃ g, g = w1.heap.size := ⟨_, rfl⟩
 obtain ⟨g2, hg2⟩ : ∃ g2, g2 = w2.heap.size := ⟨_, rfl⟩
 rw [<- hg, <- hg2] at hK ⊢
 clear hn0
 generalize (w2.alloc (.cells #[.string (str L.label), .string (str L.op), .slice a2 L.args.length c2] 71)) = w3 at hK ⊢
 clear hg hg2 hb1 hb2 hA1 hA2 hS0
 replace hK := Hid.intro hK
 have l10 := (cell_blockT hK.out.l1 0).trans rfl
 have l11 := (cell_blockT hK.out.l1 1).trans rfl
 have l12 := (cell_blockT hK.out.l1 2).trans rfl
 have h17 := Hid.intro (hRH.out.prog w3 a c hK.out.st.tab hK.out.a1)
 have h29 := Hid.intro (fun w4 (h4 : KLn w L a c g a2 c2 g2 w4) => hRH.out.doc w4 a2 c2 h4.a2)
 cases R with
 | error k =>
  go_upto_region 7 with (first
   | (go_at_call 17; (with_reducible refine (h17.out).mono ?_); rintro e w4 ⟨hb4, rfl⟩; have hK4 := Hid.intro (fun o => (hK.out.below hb4).below (below_alloc w4 o)); have l20 := fun o => (cell_blockT (hK4.out o).l2 0).trans rfl; have l21 := fun o => (cell_blockT (hK4.out o).l2 1).trans rfl; have l22 := fun o => (cell_blockT (hK4.out o).l2 2).trans rfl; have hT4 := Hid.intro (heap_alloc_new w4 (.cells #[.int .i64 0, .slice none 0 0, .string (str []), .slice none 0 0, .int .u32 0, .int .i64 0] 37)))
   | (go_at_call 29; (with_reducible refine (h29.out _ (hK4.out _)).mono ?_); rintro e w5 ⟨hb5, rfl⟩))
  all_goals first | omega | skip
  have hK6 := ((hK4.out (.cells #[.int .i64 0, .slice none 0 0, .string (str []), .slice none 0 0, .int .u32 0, .int .i64 0] 37)).below hb5).below (below_alloc w5 (.cells #[.int .i64 0, .slice none 0 0, .string (str []), .slice none 0 0, .int .u32 0, .int .i64 0] 38))
  have hs45 := hb5.size
  have hs4 : (w4.alloc (.cells #[.int .i64 0, .slice none 0 0, .string (str []), .slice none 0 0, .int .u32 0, .int .i64 0] 37)).heap.size = w4.heap.size + 1 := by simp
  rw [hs4] at hs45
  have ht6 : (w5.alloc (.cells #[.int .i64 0, .slice none 0 0, .string (str []), .slice none 0 0, .int .u32 0, .int .i64 0] 38)).heap[w4.heap.size]? = some (.cells #[.int .i64 0, .slice none 0 0, .string (str []), .slice none 0 0, .int .u32 0, .int .i64 0] 37 (0, 0)) := by
   rw [Below.heap_alloc _ _ _ (by omega), hb5.block _ (by simp)]
   exact hT4.out
  have hu6 : (w5.alloc (.cells #[.int .i64 0, .slice none 0 0, .string (str []), .slice none 0 0, .int .u32 0, .int .i64 0] 38)).heap[w5.heap.size]? = some (.cells #[.int .i64 0, .slice none 0 0, .string (str []), .slice none 0 0, .int .u32 0, .int .i64 0] 38 (0, 0)) := heap_alloc_new w5 _
  have hlt4 : w.heap.size + 1 < w4.heap.size := Nat.lt_of_lt_of_le (blk_lt hK.out.st.r2) hb4.size
  obtain ⟨gt, hgt⟩ : ∃ gt, gt = w4.heap.size := ⟨_, rfl⟩
  obtain ⟨gu, hgu⟩ : ∃ gu, gu = w5.heap.size := ⟨_, rfl⟩
  rw [<- hgt] at ht6 ⊢
  rw [<- hgu] at hu6 ⊢
  have hd1 : gt ≠ w.heap.size := by omega
  have hd2 : gt ≠ w.heap.size + 1 := by omega
  have hd3 : gu ≠ w.heap.size := by omega
  have hd4 : gu ≠ w.heap.size + 1 := by omega
  clear l20 l21 l22 l10 l11 l12 hT4 hK4 hgt hgu hs45 hs4 hlt4 hb5 hb4
  generalize (w5.alloc (.cells #[.int .i64 0, .slice none 0 0, .string (str []), .slice none 0 0, .int .u32 0, .int .i64 0] 38)) = w6 at hK6 ht6 hu6 ⊢
  have hS6 := Hid.intro hK6.st
  have t := fun j => cell_blockT ht6 j
  have t0 := (t 0).trans rfl
  have t1 := (t 1).trans rfl
  have t2 := (t 2).trans rfl
  have t3 := (t 3).trans rfl
  have t4 := (t 4).trans rfl
  have t5 := (t 5).trans rfl
  have u := fun j => cell_blockT hu6 j
  have u0 := (u 0).trans rfl
  have u1 := (u 1).trans rfl
  have u2 := (u 2).trans rfl
  have u3 := (u 3).trans rfl
  have u4 := (u 4).trans rfl
  have u5 := (u 5).trans rfl
  have r := fun j => cell_blockT hS6.out.r1 j
  have r0 := (r 0).trans rfl
  have r1 := (r 1).trans rfl
  have r2 := (r 2).trans rfl
  have r3 := (r 3).trans rfl
  have r4 := (r 4).trans rfl
  have r5 := (r 5).trans rfl
  have q := fun j => cell_blockT hS6.out.r2 j
  have q0 := (q 0).trans rfl
  have q1 := (q 1).trans rfl
  have q2 := (q 2).trans rfl
  have q3 := (q 3).trans rfl
  have q4 := (q 4).trans rfl
  have q5 := (q 5).trans rfl
  have rf := fun j => frozen_of_row w6 w.heap.size j _ 37 hS6.out.r1
  have qf := fun j => frozen_of_row w6 (w.heap.size + 1) j _ 38 hS6.out.r2
  clear t u r q hK6 ht6 hu6 hK h17 h29 hLH hRH
  go_region
  all_goals first | omega | skip
  go_wp2
  all_goals first | omega | skip
  have hbs := hS6.out.bel.size
  have hr2l := blk_lt hS6.out.r2
  obtain ⟨s1, s2⟩ := six_setT hS6.out.r1 (.int .i64 0) (.slice none 0 0) (.string (str [])) (.slice none 0 0) (.int .u32 0) (.int .i64 0)
  have hr2' := hS6.out.r2
  rw [<- s2.block (w.heap.size + 1) hr2l (by simp)] at hr2'
  have hB7 := hS6.out.bel.grown s2 hbs (fun j hj => by cases hj; exact Nat.le_refl _)
  generalize (((((w6.setCell ⟨w.heap.size, 0, none⟩ (.int .i64 0)).setCell ⟨w.heap.size, 1, none⟩ (.slice none 0 0)).setCell ⟨w.heap.size, 2, none⟩ (.string (str []))).setCell ⟨w.heap.size, 3, none⟩ (.slice none 0 0)).setCell ⟨w.heap.size, 4, none⟩ (.int .u32 0)).setCell ⟨w.heap.size, 5, none⟩ (.int .i64 0) = w7 at s1 s2 hr2' hB7 ⊢
  obtain ⟨s3, s4⟩ := six_setT hr2' (.int .i64 0) (.slice none 0 0) (.string (str [])) (.slice none 0 0) (.int .u32 0) (.int .i64 0)
  have hs27 := s2.size
  rw [<- s4.block w.heap.size (by omega) (by simp)] at s1
  have hB9 := hB7.grown s4 (by omega) (fun j hj => by cases hj; omega)
  generalize (((((w7.setCell ⟨w.heap.size + 1, 0, none⟩ (.int .i64 0)).setCell ⟨w.heap.size + 1, 1, none⟩ (.slice none 0 0)).setCell ⟨w.heap.size + 1, 2, none⟩ (.string (str []))).setCell ⟨w.heap.size + 1, 3, none⟩ (.slice none 0 0)).setCell ⟨w.heap.size + 1, 4, none⟩ (.int .u32 0)).setCell ⟨w.heap.size + 1, 5, none⟩ (.int .i64 0) = w8 at s1 s3 s4 hB9 ⊢
  have k := fun j => cell_blockT s1 j
  have k0 := (k 0).trans rfl
  have k1 := (k 1).trans rfl
  have k2 := (k 2).trans rfl
  have k3 := (k 3).trans rfl
  have k4 := (k 4).trans rfl
  have k5 := (k 5).trans rfl
  have m := fun j => cell_blockT s3 j
  have m0 := (m 0).trans rfl
  have m1 := (m 1).trans rfl
  have m2 := (m 2).trans rfl
  have m3 := (m 3).trans rfl
  have m4 := (m 4).trans rfl
  have m5 := (m 5).trans rfl
  refine bodyPost_ret (by simp [results, Tryz.results11, go_sem, k0, k1, k2, k3, k4, k5, m0, m1, m2, m3, m4, m5]; try rfl) rfl ?_
  exact ⟨hB9.drew, rfl⟩
 | ok t =>
  go_upto_region 7 with (first
   | (go_at_call 17; (with_reducible refine (h17.out).mono ?_); rintro e w4 ⟨hb4, vi, va, n, vc, rfl, hit, hnn, htm⟩; replace hnn := Hid.intro hnn; replace htm := Hid.intro htm; obtain ⟨ai, ni, ci, rfl⟩ := lie_slice hit; replace hit := Hid.intro hit; have hK4 := Hid.intro (fun o => (hK.out.below hb4).below (below_alloc w4 o)); have l20 := fun o => (cell_blockT (hK4.out o).l2 0).trans rfl; have l21 := fun o => (cell_blockT (hK4.out o).l2 1).trans rfl; have l22 := fun o => (cell_blockT (hK4.out o).l2 2).trans rfl; have hT4 := Hid.intro (heap_alloc_new w4 (.cells #[.int .i64 t.kind, .slice ai ni ci, .string (str t.name), .slice va n vc, .int .u32 t.e.const, .int .i64 t.sec] 37)))
   | (go_at_call 29; (with_reducible refine (h29.out _ (hK4.out _)).mono ?_); rintro e w5 ⟨hb5, vj, vb, m, vd, rfl, hjt, hmm, hjm⟩; obtain ⟨bi, mi, di, rfl⟩ := lie_slice hjt; replace hjt := Hid.intro hjt; replace hmm := Hid.intro hmm; replace hjm := Hid.intro hjm))
  all_goals first | omega | skip
  have hK6 := ((hK4.out (.cells #[.int .i64 t.kind, .slice ai ni ci, .string (str t.name), .slice va n vc, .int .u32 t.e.const, .int .i64 t.sec] 37)).below hb5).below (below_alloc w5 (.cells #[.int .i64 t.kind, .slice bi mi di, .string (str t.name), .slice vb m vd, .int .u32 t.e.const, .int .i64 t.sec] 38))
  have hs45 := hb5.size
  have hs4 : (w4.alloc (.cells #[.int .i64 t.kind, .slice ai ni ci, .string (str t.name), .slice va n vc, .int .u32 t.e.const, .int .i64 t.sec] 37)).heap.size = w4.heap.size + 1 := by simp
  rw [hs4] at hs45
  have ht6 : (w5.alloc (.cells #[.int .i64 t.kind, .slice bi mi di, .string (str t.name), .slice vb m vd, .int .u32 t.e.const, .int .i64 t.sec] 38)).heap[w4.heap.size]? = some (.cells #[.int .i64 t.kind, .slice ai ni ci, .string (str t.name), .slice va n vc, .int .u32 t.e.const, .int .i64 t.sec] 37 (0, 0)) := by
   rw [Below.heap_alloc _ _ _ (by omega), hb5.block _ (by simp)]
   exact hT4.out
  have hu6 : (w5.alloc (.cells #[.int .i64 t.kind, .slice bi mi di, .string (str t.name), .slice vb m vd, .int .u32 t.e.const, .int .i64 t.sec] 38)).heap[w5.heap.size]? = some (.cells #[.int .i64 t.kind, .slice bi mi di, .string (str t.name), .slice vb m vd, .int .u32 t.e.const, .int .i64 t.sec] 38 (0, 0)) := heap_alloc_new w5 _
  have hlt4 : w.heap.size + 1 < w4.heap.size := Nat.lt_of_lt_of_le (blk_lt hK.out.st.r2) hb4.size
  obtain ⟨gt, hgt⟩ : ∃ gt, gt = w4.heap.size := ⟨_, rfl⟩
  obtain ⟨gu, hgu⟩ : ∃ gu, gu = w5.heap.size := ⟨_, rfl⟩
  rw [<- hgt] at ht6 ⊢
  rw [<- hgu] at hu6 ⊢
  have hd1 : gt ≠ w.heap.size := by omega
  have hd2 : gt ≠ w.heap.size + 1 := by omega
  have hd3 : gu ≠ w.heap.size := by omega
  have hd4 : gu ≠ w.heap.size + 1 := by omega
  have hb46 : Below w4.heap.size w4 (w5.alloc (.cells #[.int .i64 t.kind, .slice bi mi di, .string (str t.name), .slice vb m vd, .int .u32 t.e.const, .int .i64 t.sec] 38)) := ((below_alloc w4 (.cells #[.int .i64 t.kind, .slice ai ni ci, .string (str t.name), .slice va n vc, .int .u32 t.e.const, .int .i64 t.sec] 37)).trans (hb5.mono (by simp))).alloc (by omega) _
  have hit6 := hit.out.below hb46
  have htm6 := htm.out.below hb46 (Nat.le_refl _)
  have hjt6 := hjt.out.below (below_alloc w5 (.cells #[.int .i64 t.kind, .slice bi mi di, .string (str t.name), .slice vb m vd, .int .u32 t.e.const, .int .i64 t.sec] 38))
  have hjm6 := hjm.out.below (below_alloc w5 (.cells #[.int .i64 t.kind, .slice bi mi di, .string (str t.name), .slice vb m vd, .int .u32 t.e.const, .int .i64 t.sec] 38)) (Nat.le_refl _)
  clear l20 l21 l22 l10 l11 l12 hT4 hK4 hgt hgu hs45 hs4 hlt4 hb5 hb4 hit htm hjt hjm hb46
  generalize (w5.alloc (.cells #[.int .i64 t.kind, .slice bi mi di, .string (str t.name), .slice vb m vd, .int .u32 t.e.const, .int .i64 t.sec] 38)) = w6 at hK6 ht6 hu6 hit6 htm6 hjt6 hjm6 ⊢
  replace hit6 := Hid.intro hit6
  replace htm6 := Hid.intro htm6
  replace hjt6 := Hid.intro hjt6
  replace hjm6 := Hid.intro hjm6
  have hS6 := Hid.intro hK6.st
  have tt := fun j => cell_blockT ht6 j
  have t0 := (tt 0).trans rfl
  have t1 := (tt 1).trans rfl
  have t2 := (tt 2).trans rfl
  have t3 := (tt 3).trans rfl
  have t4 := (tt 4).trans rfl
  have t5 := (tt 5).trans rfl
  have u := fun j => cell_blockT hu6 j
  have u0 := (u 0).trans rfl
  have u1 := (u 1).trans rfl
  have u2 := (u 2).trans rfl
  have u3 := (u 3).trans rfl
  have u4 := (u 4).trans rfl
  have u5 := (u 5).trans rfl
  have r := fun j => cell_blockT hS6.out.r1 j
  have r0 := (r 0).trans rfl
  have r1 := (r 1).trans rfl
  have r2 := (r 2).trans rfl
  have r3 := (r 3).trans rfl
  have r4 := (r 4).trans rfl
  have r5 := (r 5).trans rfl
  have q := fun j => cell_blockT hS6.out.r2 j
  have q0 := (q 0).trans rfl
  have q1 := (q 1).trans rfl
  have q2 := (q 2).trans rfl
  have q3 := (q 3).trans rfl
  have q4 := (q 4).trans rfl
  have q5 := (q 5).trans rfl
  have rf := fun j => frozen_of_row w6 w.heap.size j _ 37 hS6.out.r1
  have qf := fun j => frozen_of_row w6 (w.heap.size + 1) j _ 38 hS6.out.r2
  clear tt u r q hK6 ht6 hu6 hK h17 h29 hLH hRH
  go_region
  all_goals first | omega | skip
  go_wp2
  all_goals first | omega | skip
  have hbs := hS6.out.bel.size
  have hr2l := blk_lt hS6.out.r2
  obtain ⟨s1, s2⟩ := six_setT hS6.out.r1 (.int .i64 t.kind) (.slice ai ni ci) (.string (str t.name)) (.slice va n vc) (.int .u32 t.e.const) (.int .i64 t.sec)
  have hit7 := items_resT hit6.out hS6.out.r1 s2
  have htm7 := tmLies_resT htm6.out hS6.out.r1 s2
  have hjt7 := items_resT hjt6.out hS6.out.r1 s2
  have hjm7 := tmLies_resT hjm6.out hS6.out.r1 s2
  have hr2' := hS6.out.r2
  rw [<- s2.block (w.heap.size + 1) hr2l (by simp)] at hr2'
  have hB7 := hS6.out.bel.grown s2 hbs (fun j hj => by cases hj; exact Nat.le_refl _)
  generalize (((((w6.setCell ⟨w.heap.size, 0, none⟩ (.int .i64 t.kind)).setCell ⟨w.heap.size, 1, none⟩ (.slice ai ni ci)).setCell ⟨w.heap.size, 2, none⟩ (.string (str t.name))).setCell ⟨w.heap.size, 3, none⟩ (.slice va n vc)).setCell ⟨w.heap.size, 4, none⟩ (.int .u32 t.e.const)).setCell ⟨w.heap.size, 5, none⟩ (.int .i64 t.sec) = w7 at s1 s2 hr2' hB7 hit7 htm7 hjt7 hjm7 ⊢
  obtain ⟨s3, s4⟩ := six_setT hr2' (.int .i64 t.kind) (.slice bi mi di) (.string (str t.name)) (.slice vb m vd) (.int .u32 t.e.const) (.int .i64 t.sec)
  replace hit7 := items_resT hit7 hr2' s4
  replace htm7 := tmLies_resT htm7 hr2' s4
  replace hjt7 := items_resT hjt7 hr2' s4
  replace hjm7 := tmLies_resT hjm7 hr2' s4
  have hs27 := s2.size
  rw [<- s4.block w.heap.size (by omega) (by simp)] at s1
  have hB9 := hB7.grown s4 (by omega) (fun j hj => by cases hj; omega)
  generalize (((((w7.setCell ⟨w.heap.size + 1, 0, none⟩ (.int .i64 t.kind)).setCell ⟨w.heap.size + 1, 1, none⟩ (.slice bi mi di)).setCell ⟨w.heap.size + 1, 2, none⟩ (.string (str t.name))).setCell ⟨w.heap.size + 1, 3, none⟩ (.slice vb m vd)).setCell ⟨w.heap.size + 1, 4, none⟩ (.int .u32 t.e.const)).setCell ⟨w.heap.size + 1, 5, none⟩ (.int .i64 t.sec) = w8 at s1 s3 s4 hB9 hit7 htm7 hjt7 hjm7 ⊢
  have k := fun j => cell_blockT s1 j
  have k0 := (k 0).trans rfl
  have k1 := (k 1).trans rfl
  have k2 := (k 2).trans rfl
  have k3 := (k 3).trans rfl
  have k4 := (k 4).trans rfl
  have k5 := (k 5).trans rfl
  have mm := fun j => cell_blockT s3 j
  have m0 := (mm 0).trans rfl
  have m1 := (mm 1).trans rfl
  have m2 := (mm 2).trans rfl
  have m3 := (mm 3).trans rfl
  have m4 := (mm 4).trans rfl
  have m5 := (mm 5).trans rfl
  refine bodyPost_ret (by simp [results, Tryz.results11, go_sem, k0, k1, k2, k3, k4, k5, m0, m1, m2, m3, m4, m5]; try rfl) rfl ?_
  exact ⟨hB9.drew, ai, ni, ci, va, n, vc, bi, mi, di, vb, m, vd, rfl, hit7.below ((Below.refl _ w8).drew), hnn.out, htm7.below ((Below.refl _ w8).drew) (Nat.le_refl _), hjt7.below ((Below.refl _ w8).drew), hmm.out, hjm7.below ((Below.refl _ w8).drew) (Nat.le_refl _)⟩
end Go.Proofs.YtlkmegchaeokgaaGreatDoor
/- The law's same and says, of any line. -/
namespace Go.Proofs.YtlkmegchaeokgaaGreatDoor
open Go.ChangeShapes Go.WideShapes Go.ChangeAt Go.RowKit
set_option linter.unusedVariables false
set_option maxRecDepth 100000
theorem sameL_self (xs : List Tm) (k : Int) : sameL xs xs k k = true := by simp [sameL]
theorem lie_fullN {w : World} {ai : Option Addr} {ni ci : Nat} {l : List Itm} (h : ItemsLie w (.slice ai ni ci) l) {i : Nat} {x : Itm} (hi : l[i]? = some x) : ∃ q, ai = some ⟨q, 0, none⟩ /\ q < w.heap.size /\ ∃ va vc, ItAt w q (i * 10) x va x.e.terms.length vc /\ TmLies w va x.e.terms := by
 rcases h with ⟨rfl, h⟩ | ⟨q, c, hv, hq, hl⟩
 ·simp at hi
 ·injection hv with hv
  obtain ⟨va, n, vc, h1, h2, h3⟩ := hl i x hi
  subst h2
  exact ⟨q, hv, hq, va, vc, h1, h3⟩
theorem ItemsLie.belowT {w w' : World} {vi : Value} {l : List Itm} (h : ItemsLie w vi l) {B : Nat} (hb : Below B w w') (hB : B = w.heap.size := by rfl) : ItemsLie w' vi l := by
 subst hB
 exact h.below hb
set_option maxHeartbeats 1000000 in
theorem sameItem_any (x : Itm) (va vb : Option Addr) (vc vd : Nat) (w : World) (h1 : TmLies w va x.e.terms) (h2 : TmLies w vb x.e.terms) (hm : x.e.terms.length <= 9000000) :
  Calls Tryz.prog 56 #[.agg (itmCells x (.slice va x.e.terms.length vc)), .agg (itmCells x (.slice vb x.e.terms.length vd))] w fun e w' => e = .returned (.bool true) /\ Below w.heap.size w w' := by
 have h31 : Hid (∀ w1, Below w.heap.size w w1 -> Calls Tryz.prog 31 #[linV (.slice va x.e.terms.length vc) x.e.const, linV (.slice vb x.e.terms.length vd) x.e.const] w1 fun e w' => e = .returned (.bool true) /\ Below w1.heap.size w1 w') := fun w1 hb => by
  have := refSame_any va vb vc vd x.e.terms x.e.terms x.e.const x.e.const w1 (h1.below hb (Nat.le_refl _)) (h2.below hb (Nat.le_refl _)) hm hm
  rwa [sameL_self] at this
 clear h1 h2
 generalize x.e.terms.length = n at h31 hm ⊢
 have hb2 : Hid (Below w.heap.size w ((w.alloc (.cells (itmCells x (.slice va n vc)) 33)).alloc (.cells (itmCells x (.slice vb n vd)) 33))) := (below_alloc w _).alloc (by simp) _
 have ht := Hid.intro (two_rows w (itmCells x (.slice va n vc)) (itmCells x (.slice vb n vd)) 33 33)
 go_enter Tryz.func56, Tryz.ntmps56
 go_wp2_with (go_at_call 31; (with_reducible refine (h31.out _ hb2.out).mono ?_); rintro e w2 ⟨rfl, hb3⟩; have z9 : w2.cell? ⟨w.heap.size, 9, none⟩ = some (.int .i64 x.n) := (cell_blockT (show w2.heap[w.heap.size]? = some (.cells (itmCells x (.slice va n vc)) 33 (0, 0)) from by rw [hb3.block _ (by simp; omega)]; exact ht.out.1) 9).trans rfl; have y9 : w2.cell? ⟨w.heap.size + 1, 9, none⟩ = some (.int .i64 x.n) := (cell_blockT (show w2.heap[w.heap.size + 1]? = some (.cells (itmCells x (.slice vb n vd)) 33 (0, 0)) from by rw [hb3.block _ (by simp)]; exact ht.out.2) 9).trans rfl)
 all_goals first | omega | skip
 go_ret
 exact ⟨rfl, hb2.out.trans (hb3.mono (by simp; omega))⟩
set_option maxHeartbeats 2000000 in
theorem sameItems_any (l : List Itm) (hm : l.length <= 1100000) (ht : ∀ x ∈ l, x.e.terms.length <= 9000000) (ai bi : Option Addr) (ni mi ci di : Nat) (w : World) (h1 : ItemsLie w (.slice ai ni ci) l) (h2 : ItemsLie w (.slice bi mi di) l) :
  Calls Tryz.prog 30 #[.slice ai ni ci, .slice bi mi di] w fun e w' => e = .returned (.bool true) /\ Below w.heap.size w w' := by
 have e1 := lie_len h1
 have e2 := lie_len h2
 obtain rfl : ni = mi := by omega
 have hn : Hid (ni = l.length) := e1
 have hnm : ni <= 1100000 := by omega
 clear e1 e2 hm
 replace h1 := Hid.intro h1
 replace h2 := Hid.intro h2
 go_enter Tryz.func30, Tryz.ntmps30
 go_wp2
 all_goals first | omega | skip
 go_loopw [5] (fun v5 wr => ∃ i : Nat, i <= ni /\ v5 = .int .i64 (i : Int) /\ Hid (Below w.heap.size w wr)) (fun v5 wr => ni - (intOf v5).toNat)
 case atStart => exact ⟨0, by omega, rfl, Hid.intro (Below.refl _ _)⟩
 case round =>
  obtain ⟨i, hi, rfl, hB⟩ := hrel
  by_cases hlt : i < ni
  ·obtain ⟨x, hx⟩ : ∃ x, l[i]? = some x := ⟨l[i]'(by rw [<- hn.out]; exact hlt), List.getElem?_eq_getElem _⟩
   obtain ⟨g, hg, hgl, xa, xc, hI, hTm⟩ := lie_fullN h1.out hx
   obtain ⟨g', hg', hgl', ya, yc, hJ, hTn⟩ := lie_fullN h2.out hx
   subst hg
   subst hg'
   have hP : Hid (∀ p : BelowOf wr, Below w.heap.size w p.wd) := fun p => hB.out.trans (p.h.mono hB.out.size)
   have h56 : Hid (∀ p : BelowOf wr, Calls Tryz.prog 56 #[.agg (itmCells x (.slice xa x.e.terms.length xc)), .agg (itmCells x (.slice ya x.e.terms.length yc))] p.wd fun e w' => e = .returned (.bool true) /\ Below p.wd.heap.size p.wd w') := fun p => sameItem_any x xa ya xc yc p.wd (hTm.below (hP.out p) (Nat.le_refl _)) (hTn.below (hP.out p) (Nat.le_refl _)) (ht x (List.mem_of_getElem? hx))
   have cI := fun p : BelowOf wr => hI.below (hP.out p) hgl
   have cJ := fun p : BelowOf wr => hJ.below (hP.out p) hgl'
   generalize x.e.terms.length = xn at h56 cI cJ
   have c0 := fun p => (cI p).kind
   have c1 := fun p => (cI p).name
   have c2 := fun p => (cI p).op
   have c3 := fun p => (cI p).a
   have c4 := fun p => (cI p).b
   have c5 := fun p => (cI p).m
   have c6 := fun p => (cI p).form
   have c7 := fun p => (cI p).terms
   have c8 := fun p => (cI p).const
   have c9 := fun p => (cI p).n
   have d0 := fun p => (cJ p).kind
   have d1 := fun p => (cJ p).name
   have d2 := fun p => (cJ p).op
   have d3 := fun p => (cJ p).a
   have d4 := fun p => (cJ p).b
   have d5 := fun p => (cJ p).m
   have d6 := fun p => (cJ p).form
   have d7 := fun p => (cJ p).terms
   have d8 := fun p => (cJ p).const
   have d9 := fun p => (cJ p).n
   clear cI cJ hI hJ hTm hTn hx hgl hgl'
   have hlt2 : (i : Int) < (ni : Int) := by omega
   have i0 : (0 : Int) <= (i : Int) := by omega
   go_wp2_with fail
   all_goals first | omega | skip
   refine wp_region_quiet_below (by kernel_rfl) (by kernel_rfl) ?_
   repeat (first | (with_reducible refine wpQuiet_skip (by with_unfolding_all rfl) ?_; simp only [Act.put, List.setIfInBounds_toArray, List.set_cons_zero, List.set_cons_succ]) | (with_reducible refine wpQuiet_step (fun K hK => ?_); go_simp; first | (with_reducible refine hK _ ?_; clear hK K) | (apply Exists.intro; refine ⟨fun p => ?_, hK _ ?_⟩; (go_at_call 56; with_reducible refine below_calls (h56.out p)); clear hK K)))
   with_reducible refine wpQuiet_nil ?_
   intro _ hw'
   obtain ⟨pq, hw''⟩ := hw'
   subst hw''
   clear c0 c1 c2 c3 c4 c5 c6 c7 c8 c9 d0 d1 d2 d3 d4 d5 d6 d7 d8 d9
   have hend := Hid.intro (hP.out pq)
   go_wp2_with fail
   all_goals first | omega | skip
   go_roundw
   case rel => exact ⟨i + 1, by omega, by go_num, hend⟩
   case measure => simp [intOf]; omega
  ·have hin : i = ni := by omega
   subst hin
   have hlt3 : ¬ ((i : Int) < (i : Int)) := by omega
   go_wp2
   all_goals first | omega | skip
   go_ret
   exact ⟨rfl, hB.out⟩
structure SmallT (t : Thg) : Prop where
 many : t.items.length <= 1100000
 each : ∀ x ∈ t.items, x.e.terms.length <= 9000000
 few : t.e.terms.length <= 9000000
set_option maxHeartbeats 1000000 in
theorem same_any (t : Thg) (hs : SmallT t) (ai bi va vb : Option Addr) (ni mi ci di vc vd : Nat) (w : World) (h1 : ItemsLie w (.slice ai ni ci) t.items) (h2 : ItemsLie w (.slice bi mi di) t.items) (h3 : TmLies w va t.e.terms) (h4 : TmLies w vb t.e.terms) :
  Calls Tryz.prog 13 #[thgV t.kind (.slice ai ni ci) t.name (.slice va t.e.terms.length vc) t.e.const t.sec, thgV t.kind (.slice bi mi di) t.name (.slice vb t.e.terms.length vd) t.e.const t.sec] w fun e w' => e = .returned (.bool true) /\ Below w.heap.size w w' := by
 have h30 : Hid (∀ w1, Below w.heap.size w w1 -> Calls Tryz.prog 30 #[.slice ai ni ci, .slice bi mi di] w1 fun e w' => e = .returned (.bool true) /\ Below w1.heap.size w1 w') := fun w1 hb => sameItems_any t.items hs.many hs.each ai bi ni mi ci di w1 (h1.belowT hb) (h2.belowT hb)
 have h31 : Hid (∀ w1, Below w.heap.size w w1 -> Calls Tryz.prog 31 #[linV (.slice va t.e.terms.length vc) t.e.const, linV (.slice vb t.e.terms.length vd) t.e.const] w1 fun e w' => e = .returned (.bool true) /\ Below w1.heap.size w1 w') := fun w1 hb => by
  have := refSame_any va vb vc vd t.e.terms t.e.terms t.e.const t.e.const w1 (h3.below hb (Nat.le_refl _)) (h4.below hb (Nat.le_refl _)) hs.few hs.few
  rwa [sameL_self] at this
 clear h1 h2 h3 h4 hs
 generalize t.e.terms.length = n at h31 ⊢
 have hb2 : Hid (Below w.heap.size w ((w.alloc (.cells #[.int .i64 t.kind, .slice ai ni ci, .string (str t.name), .slice va n vc, .int .u32 t.e.const, .int .i64 t.sec] 37)).alloc (.cells #[.int .i64 t.kind, .slice bi mi di, .string (str t.name), .slice vb n vd, .int .u32 t.e.const, .int .i64 t.sec] 38))) := (below_alloc w _).alloc (by simp) _
 have ht := Hid.intro (two_rows w #[.int .i64 t.kind, .slice ai ni ci, .string (str t.name), .slice va n vc, .int .u32 t.e.const, .int .i64 t.sec] #[.int .i64 t.kind, .slice bi mi di, .string (str t.name), .slice vb n vd, .int .u32 t.e.const, .int .i64 t.sec] 37 38)
 go_enter Tryz.func13, Tryz.ntmps13
 go_wp2_with (first | (go_at_call 30; (with_reducible refine (h30.out _ hb2.out).mono ?_); rintro e w1 ⟨rfl, hb1⟩; have ha1 : w1.heap[w.heap.size]? = some (.cells #[.int .i64 t.kind, .slice ai ni ci, .string (str t.name), .slice va n vc, .int .u32 t.e.const, .int .i64 t.sec] 37 (0, 0)) := (by rw [hb1.block _ (by simp; omega)]; exact ht.out.1); have ha2 : w1.heap[w.heap.size + 1]? = some (.cells #[.int .i64 t.kind, .slice bi mi di, .string (str t.name), .slice vb n vd, .int .u32 t.e.const, .int .i64 t.sec] 38 (0, 0)) := (by rw [hb1.block _ (by simp)]; exact ht.out.2); have z2 := (cell_blockT ha1 2).trans rfl; have z3 := (cell_blockT ha1 3).trans rfl; have z4 := (cell_blockT ha1 4).trans rfl; have y2 := (cell_blockT ha2 2).trans rfl; have y3 := (cell_blockT ha2 3).trans rfl; have y4 := (cell_blockT ha2 4).trans rfl; have hB1 := Hid.intro (hb2.out.trans (hb1.mono (by simp; omega))); replace ha1 := Hid.intro ha1; replace ha2 := Hid.intro ha2) | (go_at_call 31; (with_reducible refine (h31.out _ hB1.out).mono ?_); rintro e w2 ⟨rfl, hb3⟩; have z5 : w2.cell? ⟨w.heap.size, 5, none⟩ = some (.int .i64 t.sec) := (cell_blockT (show w2.heap[w.heap.size]? = _ from (hb3.block _ (blk_lt ha1.out)).trans ha1.out) 5).trans rfl; have y5 : w2.cell? ⟨w.heap.size + 1, 5, none⟩ = some (.int .i64 t.sec) := (cell_blockT (show w2.heap[w.heap.size + 1]? = _ from (hb3.block _ (blk_lt ha2.out)).trans ha2.out) 5).trans rfl))
 all_goals first | omega | skip
 go_ret
 exact ⟨rfl, hB1.out.trans (hb3.mono hB1.out.size)⟩
theorem saysOk (s : ByteArray) (L : Ln) (sec : Int) (t : Thg) (hs : SmallT t) (hL : Lined s L) (hR : Told2 L sec (.ok t)) (w : World) (hT : Tab w) :
  Calls Tryz.prog 8 #[.string s, .int .i64 sec, .int .i64 0] w fun e w' => e = .returned (.bool true) /\ Below w.heap.size w w' := by
 have hrd := Hid.intro (readN s L sec (.ok t) hL hR (fun j h => by cases h) w hT)
 have hsm : Hid (∀ (ai bi va vb : Option Addr) (ni mi ci di vc vd n m : Nat) (w1 : World), ItemsLie w1 (.slice ai ni ci) t.items -> ItemsLie w1 (.slice bi mi di) t.items -> n = t.e.terms.length -> m = t.e.terms.length -> TmLies w1 va t.e.terms -> TmLies w1 vb t.e.terms -> Calls Tryz.prog 13 #[thgV t.kind (.slice ai ni ci) t.name (.slice va n vc) t.e.const t.sec, thgV t.kind (.slice bi mi di) t.name (.slice vb m vd) t.e.const t.sec] w1 fun e w' => e = .returned (.bool true) /\ Below w1.heap.size w1 w') := fun ai bi va vb ni mi ci di vc vd n m w1 h1 h2 h3 h4 h5 h6 => by
  subst h3
  subst h4
  exact same_any t hs ai bi va vb ni mi ci di vc vd w1 h1 h2 h5 h6
 clear hL hR hT hs
 go_enter Tryz.func8, Tryz.ntmps8
 go_wp2_with (first | (go_at_call 11; (with_reducible refine (hrd.out).mono ?_); rintro e w1 ⟨hb1, ai, ni, ci, va, n, vc, bi, mi, di, vb, m, vd, rfl, hi1, hn1, ht1, hi2, hn2, ht2⟩; replace hi1 := Hid.intro (fun o1 o2 => hi1.belowT ((below_alloc w1 o1).alloc (by simp) o2)); replace hi2 := Hid.intro (fun o1 o2 => hi2.belowT ((below_alloc w1 o1).alloc (by simp) o2)); replace ht1 := Hid.intro (fun o1 o2 => ht1.below ((below_alloc w1 o1).alloc (by simp) o2) (Nat.le_refl _)); replace ht2 := Hid.intro (fun o1 o2 => ht2.below ((below_alloc w1 o1).alloc (by simp) o2) (Nat.le_refl _)); replace hn1 := Hid.intro hn1; replace hn2 := Hid.intro hn2) | (go_at_call 13; (with_reducible refine (hsm.out _ _ _ _ _ _ _ _ _ _ _ _ _ (hi1.out _ _) (hi2.out _ _) hn1.out hn2.out (ht1.out _ _) (ht2.out _ _)).mono ?_); rintro e w2 ⟨rfl, hb2⟩))
 all_goals first | omega | skip
 go_ret
 refine ⟨rfl, ?_⟩
 have := hb1.size
 exact ((hb1.alloc (by omega) _).alloc (by simp; omega) _).trans (hb2.mono (by simp; omega))
theorem saysBad (s : ByteArray) (L : Ln) (sec k : Int) (hL : Lined s L) (hR : Told2 L sec (.error k)) (hk : k ≠ 0) (w : World) (hT : Tab w) :
  Calls Tryz.prog 8 #[.string s, .int .i64 sec, .int .i64 k] w fun e w' => e = .returned (.bool true) /\ Below w.heap.size w w' := by
 have hrd := Hid.intro (readN s L sec (.error k) hL hR (fun j h => by cases h; exact hk) w hT)
 have hsm := Hid.intro sameZ
 clear hL hR hT
 go_enter Tryz.func8, Tryz.ntmps8
 go_wp2_with (first | (go_at_call 11; (with_reducible refine (hrd.out).mono ?_); rintro e w1 ⟨hb1, rfl⟩) | (go_at_call 13; (with_reducible refine (hsm.out _).mono ?_); rintro e w2 ⟨rfl, hb2⟩))
 all_goals first | omega | skip
 go_ret
 refine ⟨rfl, ?_⟩
 have := hb1.size
 exact ((hb1.alloc (by omega) _).alloc (by simp; omega) _).trans (hb2.mono (by simp; omega))
end Go.Proofs.YtlkmegchaeokgaaGreatDoor
/- A token's number is one of 32 bits. -/
namespace Go.Proofs.YtlkmegchaeokgaaGreatDoor
set_option linter.unusedVariables false
set_option maxRecDepth 100000
theorem val_hex (ds : List UInt8) : ∀ (n : Int) (i : Nat), (∀ b ∈ ds, isHex (b.toNat : Int) = true) -> 0 <= n -> n < 16 ^ i -> 0 <= val 16 n ds /\ val 16 n ds < 16 ^ (i + ds.length) := by
 induction ds with
 | nil => intro n i _ h0 h1; rw [val_nil]; simpa using ⟨h0, h1⟩
 | cons b ds ih =>
  intro n i h h0 h1
  have hd := digI_lo _ (h b (by simp))
  rw [val_cons]
  have hp : (16 : Int) ^ (i + 1) = 16 ^ i * 16 := Int.pow_succ 16 i
  have := ih (16 * n + digI (b.toNat : Int)) (i + 1) (fun x hx => h x (by simp [hx])) (by omega) (by rw [hp]; omega)
  rw [List.length_cons, show i + (ds.length + 1) = i + 1 + ds.length by omega]
  exact this
theorem hexLen_le8 (k : Nat) (r : List UInt8) : hexLen k r <= k := Nat.min_le_left _ _
theorem hex_take (k : Nat) (r : List UInt8) : ∀ b ∈ r.take (hexLen k r), isHex (b.toNat : Int) = true := fun b hb => by
 have hle : hexLen k r <= lenW isHex r := Nat.min_le_right _ _
 have : b ∈ r.take (lenW isHex r) := by
  rw [<- Nat.min_eq_left hle, <- List.take_take] at hb
  exact List.mem_of_mem_take hb
 exact take_all isHex r b this
theorem numAt_range {r : List UInt8} {n : Int} {k : Nat} (h : numAt r = some (n, k)) : 0 <= n /\ n < 4294967296 := by
 unfold numAt at h
 split at h
 ·split at h
  ·cases h
   have : ∀ (l : List UInt8) (j : Nat), 0 <= atI l j /\ atI l j <= 255 := fun l j => by
    unfold atI
    have := (l.getD j 0).toNat_lt
    omega
   have := this r 1
   omega
  ·cases h
 ·split at h
  ·split at h
   ·cases h
   ·cases h
    have := val_hex ((r.drop 2).take (hexLen 8 (r.drop 2))) 0 0 (hex_take 8 (r.drop 2)) (by omega) (by simp)
    have hl : ((r.drop 2).take (hexLen 8 (r.drop 2))).length <= 8 := by rw [List.length_take]; have := hexLen_le8 8 (r.drop 2); omega
    have := hex_small _ _ (by omega) this.2
    omega
  ·split at h
   ·split at h
    ·cases h
    ·cases h; omega
   ·split at h
    ·cases h
    ·rename_i hh
     cases h
     have := val_ge 0 (r.take (lenW isDig r)) (by omega) (take_all isDig r)
     omega
theorem tokAt_num {r : List UInt8} {kind n : Int} {k : Nat} (h : tokAt r = some (kind, n, k)) : 0 <= n /\ n < 4294967296 := by
 unfold tokAt at h
 split at h
 ·split at h
  ·cases h; omega
  ·cases h
 ·split at h
  ·split at h
   ·cases h
   ·cases h
    unfold numN
    cases hn : numAt r with
    | none => simp
    | some p => obtain ⟨m, j⟩ := p; exact numAt_range hn
  ·split at h
   ·cases h; omega
   ·cases h
theorem scan_nums (r : List UInt8) (a : Nat) (ts : List Tok) (h : scan r a = .ok ts) : ∀ t ∈ ts, 0 <= t.num /\ t.num < 4294967296 := by
 induction hn : r.length using Nat.strongRecOn generalizing r a ts with
 | _ n ih =>
  subst hn
  cases r with
  | nil => unfold scan at h; cases h; simp
  | cons b r =>
   unfold scan at h
   split at h
   ·cases h; simp
   ·split at h
    ·exact ih r.length (by simp) r (a + 1) ts h rfl
    ·split at h
     ·cases h
     ·rename_i kind m k ht
      have hk := (tokAt_some _ _ _ _ ht).1
      have hm := tokAt_num ht
      split at h
      ·rename_i ts' hts
       cases h
       intro t htm
       rcases List.mem_cons.1 htm with rfl | htm
       ·exact hm
       ·exact ih _ (by rw [List.length_drop]; simp; omega) _ _ ts' hts rfl t htm
      ·cases h
end Go.Proofs.YtlkmegchaeokgaaGreatDoor
/- The arguments of a short line are few and short. -/
namespace Go.Proofs.YtlkmegchaeokgaaGreatDoor
open Go.ChangeShapes Go.WideShapes Go.ChangeAt Go.RowKit
set_option linter.unusedVariables false
set_option maxRecDepth 100000
theorem argsF_any (n : Nat) (ts arg : List Tok) (acc out : List (List Tok)) (h : argsF n ts arg acc = .ok out) (h3 : ∀ xs ∈ acc, xs ≠ []) : ∀ xs ∈ out, xs ≠ [] := by
 induction ts generalizing arg acc with
 | nil =>
  unfold argsF at h
  split at h
  ·cases h
  ·rename_i h0
   cases h
   intro xs hx
   rcases List.mem_append.1 hx with hx | hx
   ·exact h3 xs hx
   ·simp at hx; subst hx; intro e; subst e; exact h0 rfl
 | cons t ts ih =>
  unfold argsF at h
  split at h
  ·cases h
  ·split at h
   ·split at h
    ·cases h
    ·rename_i h0
     refine ih _ _ h (fun xs hx => ?_)
     rcases List.mem_append.1 hx with hx | hx
     ·exact h3 xs hx
     ·simp at hx; subst hx; intro e; subst e; exact h0 rfl
   ·exact ih _ _ h h3
theorem parseL_all (P : Tok -> Prop) (s : List UInt8) (L : Ln) (h : parseL s = .ok L) (hP : ∀ ts, scan s 0 = .ok ts -> ∀ t ∈ ts, P t) : ∀ xs ∈ L.args, xs ≠ [] /\ ∀ t ∈ xs, P t := by
 unfold parseL at h
 cases hs : scan s 0 with
 | error q => rw [hs] at h; cases h
 | ok ts =>
  rw [hs] at h
  have hp := hP ts hs
  have hm := cutT_mem ts
  unfold parseT lineT at h
  simp only at h
  split at h
  ·cases h
   intro xs hx
   cases hx
  ·rename_i t r heq
   rw [heq] at hm
   split at h
   ·split at h
    ·rename_i out hq
     cases h
     unfold argsT at hq
     split at hq
     ·cases hq
      intro xs hx
      cases hx
     ·have h1 := argsF_mem _ P _ _ _ _ hq (fun x hx => hp x (hm x (by simp [hx]))) (fun x hx => by cases hx) (fun x hx => by cases hx)
      have h2 := argsF_any _ _ _ _ _ hq (fun x hx => by cases hx)
      exact fun xs hx => ⟨h2 xs hx, h1 xs hx⟩
    ·cases h
   ·cases h
theorem parseL_small {s : List UInt8} (hs : s.length <= 1000) {L : Ln} (h : parseL s = .ok L) : L.args.length <= 1001 /\ ∀ xs ∈ L.args, Small xs := by
 obtain ⟨h1, h2⟩ := parseL_few s L h
 refine ⟨by omega, fun xs hx => ?_⟩
 obtain ⟨h3, h4⟩ := parseL_all (fun t => t.text.length <= s.length /\ 0 <= t.num /\ t.num < 4294967296) s L h (fun ts hts t ht => ⟨scan_text s 0 ts hts t ht, scan_nums s 0 ts hts t ht⟩) xs hx
 exact ⟨by have := h2 xs hx; omega, fun t ht => by have := (h4 t ht).1; omega, fun t ht => (h4 t ht).2, h3⟩
end Go.Proofs.YtlkmegchaeokgaaGreatDoor
/- The walk of ItemNumbers: chapter 8's runs. -/
namespace Go.Proofs.YtlkmegchaeokgaaGreatDoor
open Go.ChangeShapes Go.WideShapes Go.ChangeAt Go.RowKit
set_option linter.unusedVariables false
set_option maxRecDepth 100000
def parseLE (s : List UInt8) : Except Nat Ln :=
 match scanF 60 s 0 with
 | .error p => .error p
 | .ok ts => parseT s.length ts
theorem parseL_E {s : List UInt8} (h : s.length <= 60) : parseL s = parseLE s := by
 unfold parseL parseLE
 rw [scan_eq 60 s 0 h]
 cases scanF 60 s 0 <;> rfl
def lineB (s : List UInt8) (sec why : Int) : Bool :=
 decide (s.length <= 60) && match parseLE s with
 | .error _ => false
 | .ok l =>
  match readF l.op l.args sec with
  | .error k => decide (k = why) && decide (k ≠ 0)
  | .ok t => decide (why = 0) && (decide (t.items.length <= 1000) && ((t.items.all fun x => decide (x.e.terms.length <= 1000)) && decide (t.e.terms.length <= 1000)))
theorem bs_str (s : List UInt8) : bs (str s) = s := by simp [bs, str]
theorem both_line (s : List UInt8) (l : Ln) (sec : Int) (hlen : s.length <= 60) (hp : parseL s = .ok l) : Lined (str s) l /\ Told2 l sec (readF l.op l.args sec) := by
 have hp' : parseL (bs (str s)) = .ok l := by rw [bs_str]; exact hp
 have hsz : (str s).size = s.length := rfl
 obtain ⟨hmany, hsm⟩ := parseL_small (by omega) hp
 have hfew : FewA l.args := fun xs hx => by have := (hsm xs hx).few; omega
 exact ⟨⟨fun w => (parse_line (str s) (by omega) l hp' w).mono fun e w' ⟨h1, a, c, vs, m, h2, h3⟩ => ⟨h1, a, c, h2, args_in h3 hsm⟩, fun w => (refLine_ok (str s) (by omega) l hp' w).mono fun e w' ⟨h1, a, c, h2, h3⟩ => ⟨h1, a, c, h2, rargs_in h3 hsm⟩⟩, ⟨fun w a c h1 h2 => read_any l.label l.op a c l.args (by omega) hfew sec w h2 h1, fun w a c h2 => refRead_any l.label l.op a c l.args (by omega) hfew (fun xs hx => (hsm xs hx).any) sec w h2⟩⟩
theorem says_line (s : List UInt8) (sec why : Int) (h : lineB s sec why = true) (w : World) (hT : Tab w) :
  Calls Tryz.prog 8 #[.string (str s), .int .i64 sec, .int .i64 why] w fun e w' => e = .returned (.bool true) /\ Below w.heap.size w w' := by
 unfold lineB at h
 rw [Bool.and_eq_true, decide_eq_true_eq] at h
 obtain ⟨hlen, h⟩ := h
 rw [<- parseL_E hlen] at h
 cases hp : parseL s with
 | error p => rw [hp] at h; cases h
 | ok l =>
  rw [hp] at h
  simp only at h
  obtain ⟨hL, hR⟩ := both_line s l sec hlen hp
  cases hr : readF l.op l.args sec with
  | error k =>
   rw [hr] at h hR
   simp only [Bool.and_eq_true, decide_eq_true_eq] at h
   obtain ⟨rfl, hk⟩ := h
   exact saysBad (str s) l sec k hL hR hk w hT
  | ok t =>
   rw [hr] at h hR
   simp only [Bool.and_eq_true, decide_eq_true_eq] at h
   obtain ⟨rfl, h1, h2, h3⟩ := h
   exact saysOk (str s) l sec t ⟨by omega, fun x hx => by have := of_decide_eq_true (List.all_eq_true.1 h2 x hx); omega, by omega⟩ hL hR w hT
abbrev sAdd : ByteArray := ⟨#[97, 100, 100, 32, 114, 49, 44, 32, 114, 50]⟩
abbrev sLis : ByteArray := ⟨#[108, 105, 115, 32, 114, 49, 44, 32, 50, 48, 48]⟩
def xAdd : Itm := setReg 1 2 (setReg 0 1 (opItm 14))
theorem parse_add : parseL [97, 100, 100, 32, 114, 49, 44, 32, 114, 50] = .ok ⟨[], [97, 100, 100], [[⟨1, [114, 49], 0, 4⟩], [⟨1, [114, 50], 0, 8⟩]]⟩ := by
 rw [parseL_E (by decide)]
 kernel_rfl
theorem add_says : readF [97, 100, 100] [[⟨1, [114, 49], 0, 4⟩], [⟨1, [114, 50], 0, 8⟩]] 0 = .ok ⟨1, [xAdd], [], linE, 0⟩ := by kernel_rfl
theorem read_add (w : World) (hT : Tab w) : Calls Tryz.prog 11 #[.string sAdd, .int .i64 0] w fun e w' => Below w.heap.size w w' /\ KOut2 w' (.ok ⟨1, [xAdd], [], linE, 0⟩) e := by
 obtain ⟨hL, hR⟩ := both_line _ _ 0 (by decide) parse_add
 rw [add_says] at hR
 exact readN sAdd _ 0 _ hL hR (fun k h => by cases h) w hT
set_option maxHeartbeats 1000000 in
theorem itemKnown_any (w : World) (hT : Tab w) : Calls Tryz.prog 10 #[] w fun e w' => e = .returned (.bool true) /\ Below w.heap.size w w' := by
 have hr := read_add w hT
 replace hr := Hid.intro hr
 have hTH := Hid.intro hT
 have hs1' : Hid (∀ w1, Tab w1 -> Calls Tryz.prog 8 #[.string sAdd, .int .i64 1, .int .i64 21] w1 fun e w' => e = .returned (.bool true) /\ Below w1.heap.size w1 w') := fun w1 h1 => says_line [97, 100, 100, 32, 114, 49, 44, 32, 114, 50] 1 21 (by decide +kernel) w1 h1
 have hs2 : Hid (∀ w1, Tab w1 -> Calls Tryz.prog 8 #[.string sLis, .int .i64 0, .int .i64 21] w1 fun e w' => e = .returned (.bool true) /\ Below w1.heap.size w1 w') := fun w1 h1 => says_line [108, 105, 115, 32, 114, 49, 44, 32, 50, 48, 48] 0 21 (by decide +kernel) w1 h1
 clear hT
 go_enter Tryz.func10, Tryz.ntmps10
 go_upto_region 2 with (go_at_call 11; (with_reducible refine (hr.out).mono ?_); rintro e w1 ⟨hb1, ai, ni, ci, va, n, vc, bi, mi, di, vb, m, vd, rfl, hit, -, -, -, -, -⟩)
 all_goals first | omega | skip
 obtain ⟨q', c', hv, hI⟩ : ∃ q' c', Value.slice ai ni ci = .slice (some ⟨q', 0, none⟩) 1 c' /\ ∃ va n vc, ItAt w1 q' 0 xAdd va n vc := by
  rcases hit with ⟨h, _⟩ | ⟨q', c', hv, _, hl⟩
  ·cases h
  ·obtain ⟨va, n, vc, h, _⟩ := hl 0 xAdd rfl
   exact ⟨q', c', hv, va, n, vc, h⟩
 injection hv with e1 e2 e3
 subst e1 e2 e3
 obtain ⟨va', n', vc', hI⟩ := hI
 have hql : q' < w1.heap.size := World.block_lt_of_cell? w1 _ hI.kind
 have hs1 := hb1.size
 have hB2 : Below w1.heap.size w1 ((w1.alloc (.cells #[.int .i64 1, .slice (some ⟨q', 0, none⟩) 1 ci, .string (str []), .slice va n vc, .int .u32 linE.const, .int .i64 0] 37)).alloc (.cells #[.int .i64 1, .slice bi mi di, .string (str []), .slice vb m vd, .int .u32 linE.const, .int .i64 0] 38)) := (below_alloc w1 _).alloc (by simp) _
 have ht := (two_rows w1 #[.int .i64 1, .slice (some ⟨q', 0, none⟩) 1 ci, .string (str []), .slice va n vc, .int .u32 linE.const, .int .i64 0] #[.int .i64 1, .slice bi mi di, .string (str []), .slice vb m vd, .int .u32 linE.const, .int .i64 0] 37 38).1
 generalize ((w1.alloc (.cells #[.int .i64 1, .slice (some ⟨q', 0, none⟩) 1 ci, .string (str []), .slice va n vc, .int .u32 linE.const, .int .i64 0] 37)).alloc (.cells #[.int .i64 1, .slice bi mi di, .string (str []), .slice vb m vd, .int .u32 linE.const, .int .i64 0] 38)) = w2 at hB2 ht ⊢
 have t0 := (cell_blockT ht 0).trans rfl
 have t1 := (cell_blockT ht 1).trans rfl
 have c2 : w2.cell? ⟨q', 2, none⟩ = some (.int .i64 14) := (hB2.cell (p := ⟨q', 2, none⟩) hql).trans (hI.op.trans rfl)
 have c3 : w2.cell? ⟨q', 3, none⟩ = some (.int .i64 1) := (hB2.cell (p := ⟨q', 3, none⟩) hql).trans (hI.a.trans rfl)
 have c4 : w2.cell? ⟨q', 4, none⟩ = some (.int .i64 2) := (hB2.cell (p := ⟨q', 4, none⟩) hql).trans (hI.b.trans rfl)
 have c5 : w2.cell? ⟨q', 5, none⟩ = some (.int .i32 0) := (hB2.cell (p := ⟨q', 5, none⟩) hql).trans (hI.m.trans rfl)
 have c6 : w2.cell? ⟨q', 6, none⟩ = some (.int .i64 0) := (hB2.cell (p := ⟨q', 6, none⟩) hql).trans (hI.form.trans rfl)
 have hbw : Hid (Below w.heap.size w w2) := (show Below _ _ _ from hb1.trans (hB2.mono hs1))
 have hT2 : Hid (Tab w2) := (show Tab _ from hTH.out.below hbw.out hTH.out.size)
 clear hI ht hB2 hr hql hs1
 go_wp2_with (first | (go_at_call 8; (with_reducible refine (hs1'.out _ hT2.out).mono ?_); rintro e w3 ⟨rfl, hb3⟩; have hT3 := Hid.intro (hT2.out.below hb3 hT2.out.size)) | (go_at_call 8; (with_reducible refine (hs2.out _ hT3.out).mono ?_); rintro e w4 ⟨rfl, hb4⟩))
 all_goals first | omega | skip
 go_ret
 refine ⟨rfl, ?_⟩
 have h1 := hbw.out.size
 have h2 := hb3.size
 exact (hbw.out.trans (hb3.mono (by omega))).trans (hb4.mono (by omega))
theorem right_zero2 (w : World) : Calls Tryz.prog 9 #[.agg #[.int .i64 0, .string ⟨#[]⟩, .int .i64 0, .int .i64 0, .int .i64 0, .int .i32 0, .int .i64 0, .slice none 0 0, .int .u32 0, .int .i64 0], .int .i64 2] w fun e w' => e = .returned (.int .i64 1) /\ Below w.heap.size w w' := by
 go_enter Tryz.func9, Tryz.ntmps9
 go_wp2
 all_goals first | omega | skip
 go_ret
 exact ⟨rfl, below_alloc w _⟩
theorem right_zero0 (w : World) : Calls Tryz.prog 9 #[.agg #[.int .i64 0, .string ⟨#[]⟩, .int .i64 0, .int .i64 0, .int .i64 0, .int .i32 0, .int .i64 0, .slice none 0 0, .int .u32 0, .int .i64 0], .int .i64 0] w fun e w' => e = .returned (.int .i64 31) /\ Below w.heap.size w w' := by
 have h23 : Hid (∀ w1, Calls Tryz.prog 23 #[.int .i64 0, .int .i64 0] w1 fun e w' => e = .returned (.bool false) /\ w' = w1) := fun w1 => stands_any 0 0 w1
 go_enter Tryz.func9, Tryz.ntmps9
 go_wp2_with (go_at_call 23; (with_reducible refine (h23.out _).mono ?_); rintro e w1 ⟨rfl, hw1⟩; subst hw1)
 all_goals first | omega | skip
 go_ret
 exact ⟨rfl, below_alloc w _⟩
structure NSt (w : World) (g : Nat) (l : List (List UInt8)) (wr : World) : Prop where
 bel : Below w.heap.size w wr
 tab : Tab wr
 row : ∃ T, wr.heap[g]? = some (.cells (l.map fun s => Value.string (str s)).toArray T (0, 0))
theorem NSt.below {w : World} {g : Nat} {l : List (List UInt8)} {wr w' : World} (h : NSt w g l wr) (hb : Below wr.heap.size wr w') : NSt w g l w' := by
 obtain ⟨T, hr⟩ := h.row
 exact ⟨h.bel.trans (hb.mono h.bel.size), h.tab.below hb h.tab.size, T, by rw [hb.block _ (blk_lt hr)]; exact hr⟩
theorem NSt.at {w : World} {g : Nat} {l : List (List UInt8)} {wr : World} (h : NSt w g l wr) {i : Nat} {s : List UInt8} (hi : l[i]? = some s) : wr.cell? ⟨g, i, none⟩ = some (.string (str s)) := by
 obtain ⟨T, hr⟩ := h.row
 rw [cell_blockT hr]
 simp [hi]
def synL : List (List UInt8) := [[97, 100, 100, 32, 114, 49], [97, 100, 100, 32, 114, 49, 44, 32, 122, 50], [110, 111, 112, 101], [110, 111, 112, 101, 32, 114, 49], [112, 111, 111, 108, 32, 49], [98, 121, 116, 101], [115, 101, 99, 116, 105, 111, 110, 32, 98, 111, 116, 104], [101, 113, 117, 32, 114, 49, 44, 32, 50], [108, 100, 112, 32, 114, 49, 44, 32, 53], [101, 113, 117, 32, 49, 44, 32, 50], [122, 114, 101, 32, 122, 49, 44, 32, 122, 50], [116, 114, 97, 112], [106, 109, 112]]
def badL : List (List UInt8) := [[108, 105, 115, 32, 114, 49, 44, 32, 97], [98, 121, 116, 101, 32, 49], [97, 108, 105, 103, 110, 32, 51], [97, 108, 105, 103, 110, 32, 53, 49, 50], [97, 108, 105, 103, 110, 32, 48], [108, 105, 32, 114, 49, 44, 32, 97, 42, 97], [115, 112, 97, 99, 101, 32, 49], [116, 114, 97, 112, 32, 50, 53, 54], [116, 114, 97, 112, 32, 45, 49], [119, 111, 114, 100, 32, 49]]
def finL : List (List UInt8) := [[], [120, 58], [97, 108, 105, 103, 110, 32, 50, 53, 54], [112, 111, 111, 108], [116, 114, 97, 112, 32, 50, 53, 53], [122, 115, 101, 116, 32, 122, 49, 44, 32, 114, 50, 44, 32, 114, 51], [122, 114, 101, 32, 114, 49, 44, 32, 122, 50], [101, 113, 117, 32, 120, 44, 32, 50, 42, 121], [103, 108, 111, 98, 97, 108, 32, 120], [115, 101, 99, 116, 105, 111, 110, 32, 100, 97, 116, 97], [106, 122, 32, 114, 49, 44, 32, 97], [108, 100, 112, 32, 114, 49, 44, 32, 61, 97, 43, 49]]
theorem syn_all : (synL.all fun s => lineB s 0 20) = true := by decide +kernel
theorem bad_all : (badL.all fun s => lineB s 0 21) = true := by decide +kernel
theorem fin_all : (finL.all fun s => lineB s 0 0) = true := by decide +kernel
theorem last0 : lineB [98, 121, 116, 101, 32, 49, 44, 32, 51, 48, 48] 1 21 = true := by decide +kernel
theorem last1 : lineB [98, 121, 116, 101, 32, 45, 49, 50, 56, 44, 32, 50, 53, 53] 1 0 = true := by decide +kernel
theorem last2 : lineB [115, 112, 97, 99, 101, 32, 45, 49] 1 21 = true := by decide +kernel
theorem last3 : lineB [115, 112, 97, 99, 101, 32, 49, 48, 52, 56, 53, 55, 54] 1 0 = true := by decide +kernel
theorem last4 : lineB [112, 111, 111, 108] 1 21 = true := by decide +kernel
theorem last5 : lineB [115, 101, 99, 116, 105, 111, 110, 32, 116, 101, 120, 116] 1 0 = true := by decide +kernel
set_option maxHeartbeats 4000000 in
theorem itemNumbersW (w : World) (hT : Tab w) : Calls Tryz.prog 3 #[] w fun e w' => e = .returned (.bool true) /\ Below w.heap.size w w' := by
 have hTH := Hid.intro hT
 clear hT
 go_enter Tryz.func3, Tryz.ntmps3
 go_upto_region 3 with fail
 all_goals first | omega | skip
 have hN : Hid (NSt w w.heap.size synL (w.alloc (.cells #[.string ⟨#[97, 100, 100, 32, 114, 49]⟩, .string ⟨#[97, 100, 100, 32, 114, 49, 44, 32, 122, 50]⟩, .string ⟨#[110, 111, 112, 101]⟩, .string ⟨#[110, 111, 112, 101, 32, 114, 49]⟩, .string ⟨#[112, 111, 111, 108, 32, 49]⟩, .string ⟨#[98, 121, 116, 101]⟩, .string ⟨#[115, 101, 99, 116, 105, 111, 110, 32, 98, 111, 116, 104]⟩, .string ⟨#[101, 113, 117, 32, 114, 49, 44, 32, 50]⟩, .string ⟨#[108, 100, 112, 32, 114, 49, 44, 32, 53]⟩, .string ⟨#[101, 113, 117, 32, 49, 44, 32, 50]⟩, .string ⟨#[122, 114, 101, 32, 122, 49, 44, 32, 122, 50]⟩, .string ⟨#[116, 114, 97, 112]⟩, .string ⟨#[106, 109, 112]⟩] 9))) := ⟨below_alloc w _, hTH.out.alloc _, 9, heap_alloc_new w _⟩
 generalize (w.alloc (.cells #[.string ⟨#[97, 100, 100, 32, 114, 49]⟩, .string ⟨#[97, 100, 100, 32, 114, 49, 44, 32, 122, 50]⟩, .string ⟨#[110, 111, 112, 101]⟩, .string ⟨#[110, 111, 112, 101, 32, 114, 49]⟩, .string ⟨#[112, 111, 111, 108, 32, 49]⟩, .string ⟨#[98, 121, 116, 101]⟩, .string ⟨#[115, 101, 99, 116, 105, 111, 110, 32, 98, 111, 116, 104]⟩, .string ⟨#[101, 113, 117, 32, 114, 49, 44, 32, 50]⟩, .string ⟨#[108, 100, 112, 32, 114, 49, 44, 32, 53]⟩, .string ⟨#[101, 113, 117, 32, 49, 44, 32, 50]⟩, .string ⟨#[122, 114, 101, 32, 122, 49, 44, 32, 122, 50]⟩, .string ⟨#[116, 114, 97, 112]⟩, .string ⟨#[106, 109, 112]⟩] 9)) = w1 at hN ⊢
 go_wp2
 all_goals first | omega | skip
 go_loopw [2] (fun v wr => ∃ i : Nat, i <= 13 /\ v = .int .i64 (i : Int) /\ Hid (NSt w w.heap.size synL wr)) (fun v wr => 13 - (intOf v).toNat)
 case atStart => exact ⟨0, by omega, rfl, hN⟩
 case round =>
  clear hN
  obtain ⟨i, hi, rfl, hN⟩ := hrel
  by_cases hlt : i < 13
  ·obtain ⟨s, hs⟩ : ∃ s, synL[i]? = some s := ⟨synL[i]'(by show i < 13; exact hlt), List.getElem?_eq_getElem _⟩
   have hc := hN.out.at hs
   have h8 := Hid.intro (says_line s 0 20 (List.all_eq_true.1 syn_all s (List.mem_of_getElem? hs)) wr hN.out.tab)
   generalize str s = S at hc h8
   clear hs
   go_wp2_with (go_at_call 8; (with_reducible refine (h8.out).mono ?_); rintro e w2 ⟨rfl, hb2⟩)
   all_goals first | omega | skip
   go_roundw
   case rel => exact ⟨i + 1, by omega, by go_num, Hid.intro (hN.out.below hb2)⟩
   case measure => simp [intOf]; omega
  ·obtain rfl : i = 13 := by omega
   have hB1 := Hid.intro hN.out.bel
   have hT1 := Hid.intro hN.out.tab
   clear hN
   go_upto_region 9 with fail
   all_goals first | omega | skip
   have hM : Hid (NSt w wr.heap.size badL (wr.alloc (.cells #[.string ⟨#[108, 105, 115, 32, 114, 49, 44, 32, 97]⟩, .string ⟨#[98, 121, 116, 101, 32, 49]⟩, .string ⟨#[97, 108, 105, 103, 110, 32, 51]⟩, .string ⟨#[97, 108, 105, 103, 110, 32, 53, 49, 50]⟩, .string ⟨#[97, 108, 105, 103, 110, 32, 48]⟩, .string ⟨#[108, 105, 32, 114, 49, 44, 32, 97, 42, 97]⟩, .string ⟨#[115, 112, 97, 99, 101, 32, 49]⟩, .string ⟨#[116, 114, 97, 112, 32, 50, 53, 54]⟩, .string ⟨#[116, 114, 97, 112, 32, 45, 49]⟩, .string ⟨#[119, 111, 114, 100, 32, 49]⟩] 9))) := ⟨hB1.out.alloc hB1.out.size _, hT1.out.alloc _, 9, heap_alloc_new wr _⟩
   obtain ⟨g2, hg2⟩ : ∃ g2, g2 = wr.heap.size := ⟨_, rfl⟩
   rw [<- hg2] at hM ⊢
   generalize (wr.alloc (.cells #[.string ⟨#[108, 105, 115, 32, 114, 49, 44, 32, 97]⟩, .string ⟨#[98, 121, 116, 101, 32, 49]⟩, .string ⟨#[97, 108, 105, 103, 110, 32, 51]⟩, .string ⟨#[97, 108, 105, 103, 110, 32, 53, 49, 50]⟩, .string ⟨#[97, 108, 105, 103, 110, 32, 48]⟩, .string ⟨#[108, 105, 32, 114, 49, 44, 32, 97, 42, 97]⟩, .string ⟨#[115, 112, 97, 99, 101, 32, 49]⟩, .string ⟨#[116, 114, 97, 112, 32, 50, 53, 54]⟩, .string ⟨#[116, 114, 97, 112, 32, 45, 49]⟩, .string ⟨#[119, 111, 114, 100, 32, 49]⟩] 9)) = w3 at hM ⊢
   clear hg2 hB1 hT1
   go_wp2
   all_goals first | omega | skip
   go_loopw [4] (fun v wr => ∃ i : Nat, i <= 10 /\ v = .int .i64 (i : Int) /\ Hid (NSt w g2 badL wr)) (fun v wr => 10 - (intOf v).toNat)
   case atStart => exact ⟨0, by omega, rfl, hM⟩
   case round =>
    clear hM
    obtain ⟨j, hj, rfl, hM⟩ := hrel
    by_cases hlt2 : j < 10
    ·obtain ⟨s, hs⟩ : ∃ s, badL[j]? = some s := ⟨badL[j]'(by show j < 10; exact hlt2), List.getElem?_eq_getElem _⟩
     have hc := hM.out.at hs
     have h8 := Hid.intro (says_line s 0 21 (List.all_eq_true.1 bad_all s (List.mem_of_getElem? hs)) wr hM.out.tab)
     generalize str s = S at hc h8
     clear hs
     go_wp2_with (go_at_call 8; (with_reducible refine (h8.out).mono ?_); rintro e w2 ⟨rfl, hb2⟩)
     all_goals first | omega | skip
     go_roundw
     case rel =>
      refine ⟨_, _, _, _, _, _, _, _, _, _, _, _, _, _, ⟨j + 1, by omega, ?_, Hid.intro (hM.out.below hb2)⟩, rfl⟩
      go_num
     case measure => simp [intOf]; omega
    ·obtain rfl : j = 10 := by omega
     have hB1 := Hid.intro hM.out.bel
     have hT1 := Hid.intro hM.out.tab
     clear hM
     go_upto_region 15 with fail
     all_goals first | omega | skip
     have hO : Hid (NSt w wr.heap.size finL (wr.alloc (.cells #[.string ⟨#[]⟩, .string ⟨#[120, 58]⟩, .string ⟨#[97, 108, 105, 103, 110, 32, 50, 53, 54]⟩, .string ⟨#[112, 111, 111, 108]⟩, .string ⟨#[116, 114, 97, 112, 32, 50, 53, 53]⟩, .string ⟨#[122, 115, 101, 116, 32, 122, 49, 44, 32, 114, 50, 44, 32, 114, 51]⟩, .string ⟨#[122, 114, 101, 32, 114, 49, 44, 32, 122, 50]⟩, .string ⟨#[101, 113, 117, 32, 120, 44, 32, 50, 42, 121]⟩, .string ⟨#[103, 108, 111, 98, 97, 108, 32, 120]⟩, .string ⟨#[115, 101, 99, 116, 105, 111, 110, 32, 100, 97, 116, 97]⟩, .string ⟨#[106, 122, 32, 114, 49, 44, 32, 97]⟩, .string ⟨#[108, 100, 112, 32, 114, 49, 44, 32, 61, 97, 43, 49]⟩] 9))) := ⟨hB1.out.alloc hB1.out.size _, hT1.out.alloc _, 9, heap_alloc_new wr _⟩
     obtain ⟨g3, hg3⟩ : ∃ g3, g3 = wr.heap.size := ⟨_, rfl⟩
     rw [<- hg3] at hO ⊢
     generalize (wr.alloc (.cells #[.string ⟨#[]⟩, .string ⟨#[120, 58]⟩, .string ⟨#[97, 108, 105, 103, 110, 32, 50, 53, 54]⟩, .string ⟨#[112, 111, 111, 108]⟩, .string ⟨#[116, 114, 97, 112, 32, 50, 53, 53]⟩, .string ⟨#[122, 115, 101, 116, 32, 122, 49, 44, 32, 114, 50, 44, 32, 114, 51]⟩, .string ⟨#[122, 114, 101, 32, 114, 49, 44, 32, 122, 50]⟩, .string ⟨#[101, 113, 117, 32, 120, 44, 32, 50, 42, 121]⟩, .string ⟨#[103, 108, 111, 98, 97, 108, 32, 120]⟩, .string ⟨#[115, 101, 99, 116, 105, 111, 110, 32, 100, 97, 116, 97]⟩, .string ⟨#[106, 122, 32, 114, 49, 44, 32, 97]⟩, .string ⟨#[108, 100, 112, 32, 114, 49, 44, 32, 61, 97, 43, 49]⟩] 9)) = w4 at hO ⊢
     clear hg3 hB1 hT1
     go_wp2
     all_goals first | omega | skip
     go_loopw [6] (fun v wr => ∃ i : Nat, i <= 12 /\ v = .int .i64 (i : Int) /\ Hid (NSt w g3 finL wr)) (fun v wr => 12 - (intOf v).toNat)
     case atStart => exact ⟨0, by omega, rfl, hO⟩
     case round =>
      clear hO
      obtain ⟨k, hk, rfl, hO⟩ := hrel
      by_cases hlt3 : k < 12
      ·obtain ⟨s, hs⟩ : ∃ s, finL[k]? = some s := ⟨finL[k]'(by show k < 12; exact hlt3), List.getElem?_eq_getElem _⟩
       have hc := hO.out.at hs
       have h8 := Hid.intro (says_line s 0 0 (List.all_eq_true.1 fin_all s (List.mem_of_getElem? hs)) wr hO.out.tab)
       generalize str s = S at hc h8
       clear hs
       go_wp2_with (go_at_call 8; (with_reducible refine (h8.out).mono ?_); rintro e w2 ⟨rfl, hb2⟩)
       all_goals first | omega | skip
       go_roundw
       case rel =>
        refine ⟨_, _, _, _, _, _, _, _, _, _, _, _, _, _, ⟨k + 1, by omega, ?_, Hid.intro (hO.out.below hb2)⟩, rfl⟩
        go_num
       case measure => simp [intOf]; omega
      ·obtain rfl : k = 12 := by omega
       have hB1 := Hid.intro hO.out.bel
       have hT0 := Hid.intro hO.out.tab
       clear hO
       have hs0 : Hid (∀ w1, Tab w1 -> Calls Tryz.prog 8 #[.string ⟨#[98, 121, 116, 101, 32, 49, 44, 32, 51, 48, 48]⟩, .int .i64 1, .int .i64 21] w1 fun e w' => e = .returned (.bool true) /\ Below w1.heap.size w1 w') := fun w1 h1 => says_line [98, 121, 116, 101, 32, 49, 44, 32, 51, 48, 48] 1 21 last0 w1 h1
       have hs1 : Hid (∀ w1, Tab w1 -> Calls Tryz.prog 8 #[.string ⟨#[98, 121, 116, 101, 32, 45, 49, 50, 56, 44, 32, 50, 53, 53]⟩, .int .i64 1, .int .i64 0] w1 fun e w' => e = .returned (.bool true) /\ Below w1.heap.size w1 w') := fun w1 h1 => says_line [98, 121, 116, 101, 32, 45, 49, 50, 56, 44, 32, 50, 53, 53] 1 0 last1 w1 h1
       have hs2 : Hid (∀ w1, Tab w1 -> Calls Tryz.prog 8 #[.string ⟨#[115, 112, 97, 99, 101, 32, 45, 49]⟩, .int .i64 1, .int .i64 21] w1 fun e w' => e = .returned (.bool true) /\ Below w1.heap.size w1 w') := fun w1 h1 => says_line [115, 112, 97, 99, 101, 32, 45, 49] 1 21 last2 w1 h1
       have hs3 : Hid (∀ w1, Tab w1 -> Calls Tryz.prog 8 #[.string ⟨#[115, 112, 97, 99, 101, 32, 49, 48, 52, 56, 53, 55, 54]⟩, .int .i64 1, .int .i64 0] w1 fun e w' => e = .returned (.bool true) /\ Below w1.heap.size w1 w') := fun w1 h1 => says_line [115, 112, 97, 99, 101, 32, 49, 48, 52, 56, 53, 55, 54] 1 0 last3 w1 h1
       have hs4 : Hid (∀ w1, Tab w1 -> Calls Tryz.prog 8 #[.string ⟨#[112, 111, 111, 108]⟩, .int .i64 1, .int .i64 21] w1 fun e w' => e = .returned (.bool true) /\ Below w1.heap.size w1 w') := fun w1 h1 => says_line [112, 111, 111, 108] 1 21 last4 w1 h1
       have hs5 : Hid (∀ w1, Tab w1 -> Calls Tryz.prog 8 #[.string ⟨#[115, 101, 99, 116, 105, 111, 110, 32, 116, 101, 120, 116]⟩, .int .i64 1, .int .i64 0] w1 fun e w' => e = .returned (.bool true) /\ Below w1.heap.size w1 w') := fun w1 h1 => says_line [115, 101, 99, 116, 105, 111, 110, 32, 116, 101, 120, 116] 1 0 last5 w1 h1
       have h92 : Hid (∀ w1, Tab w1 -> Calls Tryz.prog 9 #[.agg #[.int .i64 0, .string ⟨#[]⟩, .int .i64 0, .int .i64 0, .int .i64 0, .int .i32 0, .int .i64 0, .slice none 0 0, .int .u32 0, .int .i64 0], .int .i64 2] w1 fun e w' => e = .returned (.int .i64 1) /\ Below w1.heap.size w1 w') := fun w1 h1 => right_zero2 w1
       have h90 : Hid (∀ w1, Tab w1 -> Calls Tryz.prog 9 #[.agg #[.int .i64 0, .string ⟨#[]⟩, .int .i64 0, .int .i64 0, .int .i64 0, .int .i32 0, .int .i64 0, .slice none 0 0, .int .u32 0, .int .i64 0], .int .i64 0] w1 fun e w' => e = .returned (.int .i64 31) /\ Below w1.heap.size w1 w') := fun w1 h1 => right_zero0 w1
       have h10 := Hid.intro (fun w1 (h1 : Tab w1) => itemKnown_any w1 h1)
       go_wp2_with (first
        | (go_at_call 8; (with_reducible refine (hs0.out _ hT0.out).mono ?_); rintro e v0 ⟨rfl, hb0⟩; have hT1 := Hid.intro (hT0.out.below hb0 hT0.out.size))
        | (go_at_call 8; (with_reducible refine (hs1.out _ hT1.out).mono ?_); rintro e v1 ⟨rfl, hb1⟩; have hT2 := Hid.intro (hT1.out.below hb1 hT1.out.size))
        | (go_at_call 8; (with_reducible refine (hs2.out _ hT2.out).mono ?_); rintro e v2 ⟨rfl, hb2⟩; have hT3 := Hid.intro (hT2.out.below hb2 hT2.out.size))
        | (go_at_call 8; (with_reducible refine (hs3.out _ hT3.out).mono ?_); rintro e v3 ⟨rfl, hb3⟩; have hT4 := Hid.intro (hT3.out.below hb3 hT3.out.size))
        | (go_at_call 8; (with_reducible refine (hs4.out _ hT4.out).mono ?_); rintro e v4 ⟨rfl, hb4⟩; have hT5 := Hid.intro (hT4.out.below hb4 hT4.out.size))
        | (go_at_call 8; (with_reducible refine (hs5.out _ hT5.out).mono ?_); rintro e v5 ⟨rfl, hb5⟩; have hT6 := Hid.intro (hT5.out.below hb5 hT5.out.size))
        | (go_at_call 9; (with_reducible refine (h92.out _ hT6.out).mono ?_); rintro e v6 ⟨rfl, hb6⟩; have hT7 := Hid.intro (hT6.out.below hb6 hT6.out.size))
        | (go_at_call 9; (with_reducible refine (h90.out _ hT7.out).mono ?_); rintro e v7 ⟨rfl, hb7⟩; have hT8 := Hid.intro (hT7.out.below hb7 hT7.out.size))
        | (go_at_call 10; (with_reducible refine (h10.out _ hT8.out).mono ?_); rintro e v8 ⟨rfl, hb8⟩))
       all_goals first | omega | skip
       go_ret
       refine ⟨rfl, ?_⟩
       have hc0 := hB1.out.trans (hb0.mono hB1.out.size)
       have hc1 := hc0.trans (hb1.mono hc0.size)
       have hc2 := hc1.trans (hb2.mono hc1.size)
       have hc3 := hc2.trans (hb3.mono hc2.size)
       have hc4 := hc3.trans (hb4.mono hc3.size)
       have hc5 := hc4.trans (hb5.mono hc4.size)
       have hc6 := hc5.trans (hb6.mono hc5.size)
       have hc7 := hc6.trans (hb7.mono hc6.size)
       exact hc7.trans (hb8.mono hc7.size)
end Go.Proofs.YtlkmegchaeokgaaGreatDoor
namespace Go.Proofs.YtlkmegchaeokgaaGreatDoor.itemNumbers
open Go.ChangeShapes Go.WideShapes Go.ChangeAt Go.RowKit
open Go.ChangeMaps (open_string shut_string)
set_option linter.unusedVariables false
set_option maxRecDepth 100000
theorem contract (H : Type) (enc : TypeId × Value -> H) (W : World) (base : Nat) (args : Array Value) (ds gs : List (DataW H)) (before : List MemPlace)
  (hval : ∀ (j : Nat) t v, Tryz.f3.params[j]? = some t -> args[j]? = some v -> Value.okWide Tryz.prog W .any base t v)
  (hW : DataW.Whole enc Tryz.prog Tryz.f3.params.toList Rows.itemNumbersSpec.vars false W args.toList ds gs before) (hsz : (DataW.weightsEach Tryz.prog (Tryz.f3.params.toList ++ Rows.itemNumbersSpec.plain.varTypes Tryz.prog) (ds ++ gs)).all (· <= reachBytes) = true) (hL : laidMetH Tryz.prog Rows.itemNumbersRow.laid W) :
  Calls Tryz.prog 3 args W fun e W' => ∃ v, e = .returned v /\ Rows.itemNumbersSpec.post enc Tryz.prog Tryz.f3 false true false false W args v W' := by
 have hW' := hW
 obtain ⟨p, q, hA0, hV, rfl, hfz, hnd⟩ := hW
 have hA : DataW.TrodAll enc Tryz.prog W 0 (fun _ => true) true Tryz.f3.params.toList args.toList ds p := hA0
 rw [Tryz.params3] at hA hval hsz
 obtain ⟨rfl, rfl, rfl⟩ := trodAll_none hA
 obtain ⟨rfl, rfl⟩ := trodVars_none hV
 clear hA0
 simp only [List.append_nil] at hW'
 refine (itemNumbersW  W (tab_of_laid hL) ).mono fun e W' ⟨he, bel⟩ => ?_
 subst he
 exact ⟨_, rfl, _, _, _, [], _, [], hW', trodAll_mk1 (shut_bool Tryz.underlying4 _), rfl, rfl, bel.frame _, fun h => by cases h⟩
theorem reads (os : Os) {H : Type} (enc : TypeId × Value -> H) : ∃ places, DataW.whole enc Tryz.prog ((laidWorld os).forCall (fun _ _ => 0) ⟨#[], (#[] : Array Value), []⟩).memory Tryz.f3.params.toList Rows.itemNumbersSpec.vars false (#[] : Array Value).toList 8 = some ([], [], places) :=
 ⟨[], by kernel_rfl⟩
theorem lifted (os : Os) (started : os.Started) (H : Type) (enc : TypeId × Value -> H) (F : Stop.Interp) :
  ReturnsInHanded {} Tryz.checked os 3 .any ((OpenSpec.ofChange Rows.itemNumbersSpec).preRow enc Tryz.prog Tryz.f3 Rows.itemNumbersRow.domain false Rows.itemNumbersRow.laid) (((OpenSpec.ofChange Rows.itemNumbersSpec).at F).post enc Tryz.prog Tryz.f3 false true false false) := by
 obtain ⟨places, hx⟩ := reads os enc
 refine returnsInHanded_of_row (C := Tryz.checked) (s := OpenSpec.ofChange Rows.itemNumbersSpec) ownKnob_none started (by kernel_rfl) Tryz.func3
  (witness_row_at (enc := enc) (C := Tryz.checked) false (laidWorld os) (#[] : Array Value) rfl (by kernel_rfl) (by kernel_rfl) (by kernel_rfl)
   (OpenSpec.preRow_of_cond 8 hx (by kernel_rfl) (fun k hk => by cases hk) (by kernel_rfl) (laid_met os _))) ?_
 intro W base args ds gs before hval hW x1 x2 x3 hL _ _
 exact contract H enc W base args ds gs before hval hW x3 hL
theorem said : Rows.ItemNumbersSaid :=
 OpenClaim.holds_of_cond 3 Tryz.f3 rfl rfl rfl rfl rfl rfl rfl ⟨rfl, rfl, rfl, rfl, rfl⟩ rfl rfl rfl rfl rfl (by kernel_rfl) Tryz.func3 (by kernel_rfl)
  (of_decide_eq_true (by kernel_rfl)) (by unfold Func.isWrapper; first | (rw [if_pos (by decide +kernel)]; kernel_rfl) | (rw [if_neg (by decide +kernel)]; exact ⟨rfl, rfl⟩))
  (fun os started H enc _ F => by rw [OpenClaim.pre_eq_preRow]; exact lifted os started H enc F)
theorem plain (f : FuncId) (fn : Func) (hf : Tryz.pinned.checked.prog.funcNamed "spandrel/spandrellaw8.ItemNumbers" = some f) (hfn : Tryz.pinned.checked.prog.funcs[f]? = some fn) :
  true = Tryz.pinned.checked.prog.looks [] /\ ∀ (j : Nat) t, fn.params[j]? = some t -> Tryz.pinned.checked.prog.wantsStandIn t = false := by
 obtain rfl : f = 3 := Option.some.inj ((show Tryz.prog.funcNamed "spandrel/spandrellaw8.ItemNumbers" = some 3 by kernel_rfl).symm.trans hf) |>.symm
 obtain rfl : fn = Tryz.f3 := (Option.some.inj (Tryz.func3.symm.trans hfn)).symm
 refine ⟨by kernel_rfl, fun j t ht => ?_⟩
 rw [Tryz.params3] at ht
 simp at ht
theorem card : Rows.ItemNumbersCardSaid :=
 Claim7.holds_tied_plain_at .later [] _ _ _ _ said (fun _ h => by cases h) (by kernel_rfl) (fun _ h => by cases h) itemNumbers_row_tie rfl ⟨rfl, rfl⟩ (by kernel_rfl) rfl plain (by kernel_rfl)
end Go.Proofs.YtlkmegchaeokgaaGreatDoor.itemNumbers
namespace Go.Proofs.YtlkmegchaeokgaaGreatDoor
theorem itemNumbers_holds : Rows.ItemNumbersCardSaid := itemNumbers.card
#print axioms itemNumbers_holds
end Go.Proofs.YtlkmegchaeokgaaGreatDoor
