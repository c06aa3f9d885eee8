/- The document's Encode. -/
import Derived.Test.YtmpckkogllnkkaaDoorRefK
import Derived.Test.YtmpckkogllnkkaaDoorAll1
namespace Go.Proofs.YtmpckkogllnkkaaDoor
open Go.ChangeShapes Go.WideShapes Go.ChangeAt Go.RowKit
set_option linter.unusedVariables false
set_option maxRecDepth 100000

set_option maxHeartbeats 1000000 in
theorem refEnc_bad (op a b n f : Int) (w : World) (hn : -2147483648 ≤ n ∧ n ≤ 2147483647) (hc : checkN op a b n f ≠ 0) :
    Calls Tryd.prog 11 #[instV op a b n f] w fun e w' => e = .returned (.tuple #[.slice none 0 0, .int .i64 (checkN op a b n f)]) ∧ Below w.heap.size w w' := by
  have hb0 := Hid.intro (below_alloc w (.cells #[.int .i64 op, .int .i64 a, .int .i64 b, .int .i32 n, .int .i64 f] 27))
  obtain ⟨C, hC⟩ : ∃ C, checkN op a b n f = C := ⟨_, rfl⟩
  rw [hC] at hc ⊢
  have hCH := Hid.intro hC
  have e0 : (C == 0) = false := by simpa using hc
  have e1 : (C != 0) = true := by simpa using hc
  clear hC hc
  go_enter Tryd.func11, Tryd.ntmps11
  go_wp2_with (go_at_call 25; refine (refCheck_any _ _ _ _ _ _ hn).mono ?_; rintro e w1 ⟨rfl, hb1⟩; rw [hCH.out]; replace hb1 := Hid.intro hb1)
  go_ret2
  exact ⟨rfl, chain2 hb0.out hb1.out⟩

theorem refPut_held (a : Option Addr) (m cap : Nat) (zs : List Int) (n width : Int) (lo : Nat) (w : World) (hl : SlB w lo a m cap zs) (hm : zs.length ≤ 1000) (hn : 0 ≤ n ∧ n ≤ 4294967295) :
    Calls Tryd.prog 27 #[.slice a m cap, .int .u32 n, .int .i64 width] w fun e w' => ∃ a' m' c', e = .returned (.slice a' m' c') ∧ SlB w' w.heap.size a' m' c' (putL zs n width) ∧ Below w.heap.size w w' := by
  obtain ⟨rfl, hg, hz⟩ := hl
  exact (refPut_got a cap zs n width w (hg.lies hz) hg.none (by omega) hn).mono fun e w' ⟨a', c', he, hg', hb⟩ => ⟨a', _, c', he, ⟨rfl, hg', putL_bytes _ _ _ hz⟩, hb⟩

theorem opAt_late (w : World) (T : TypeId) (s : List UInt8) (b h : Int) : OpAt (w.alloc (.cells #[.string (str s), .int .u8 b, .int .i64 h] T)) w.heap.size s b h :=
  ⟨(cell_block (heap_alloc_new w _) 0).trans rfl, (cell_block (heap_alloc_new w _) 1).trans rfl, (cell_block (heap_alloc_new w _) 2).trans rfl, by simp⟩
theorem opAt_set {w : World} {g : Nat} {T : TypeId} {z0 z1 z2 : Value} (hh : w.heap[g]? = some (.cells #[z0, z1, z2] T (0, 0))) (s : List UInt8) (b h : Int) :
    OpAt (((w.setCell ⟨g, 0, none⟩ (.string (str s))).setCell ⟨g, 1, none⟩ (.int .u8 b)).setCell ⟨g, 2, none⟩ (.int .i64 h)) g s b h := by
  have h1 := heap_setCell_same w g 0 _ T (.string (str s)) hh
  have h2 := heap_setCell_same _ g 1 _ T (.int .u8 b) h1
  have h3 := heap_setCell_same _ g 2 _ T (.int .i64 h) h2
  refine ⟨(cell_block h3 0).trans (by simp), (cell_block h3 1).trans (by simp), (cell_block h3 2).trans (by simp), (Array.getElem?_eq_some_iff.1 h3).1⟩
theorem below_set3 {w w' : World} {B g : Nat} (h : Below B w w') (hg : B ≤ g) (v0 v1 v2 : Value) : Below B w (((w'.setCell ⟨g, 0, none⟩ v0).setCell ⟨g, 1, none⟩ v1).setCell ⟨g, 2, none⟩ v2) :=
  Below.setCell (p := ⟨g, 2, none⟩) (Below.setCell (p := ⟨g, 1, none⟩) (Below.setCell (p := ⟨g, 0, none⟩) h hg _) hg _) hg _

/-- a new row of one byte or two -/
theorem sl_new (w : World) (zs : List Int) (m : Nat) (hm : m = zs.length) (h : zs.length ≤ 100) (hz : AreBytes zs) : SlB (w.alloc (.cells (cellsOf zs).toArray 5)) w.heap.size (some ⟨w.heap.size, 0, none⟩) m m zs := by
  subst hm
  exact ⟨rfl, own_new w zs h, hz⟩

theorem sl_new2 (w : World) (o : Obj) (zs : List Int) (m : Nat) (hm : m = zs.length) (h : zs.length ≤ 100) (hz : AreBytes zs) : SlB ((w.alloc o).alloc (.cells (cellsOf zs).toArray 5)) (w.heap.size + 1) (some ⟨w.heap.size + 1, 0, none⟩) m m zs := by
  have := sl_new (w.alloc o) zs m hm h hz
  rw [show (w.alloc o).heap.size = w.heap.size + 1 by simp] at this
  exact this

theorem step_held {ops : Array Oper} {o : Oper} {a : Act} {K : Act → World → Prop} {Q : Exit → Act → World → Prop} {E : Prop} (w : World) (hgd : o.guard = none) (s x : Operand)
    (ho : o.op = .call { callee := .builtin .append, args := #[s, x], argTypes := #[22, 22] }) (base : Nat) (a1 : Option Addr) (m1 c1 : Nat) (zs : List Int) (lo3 : Nat) (a3 : Option Addr) (m3 c3 : Nat) (ts : List Int)
    (hs : a.eval s = .slice a1 m1 c1) (hx : a.eval x = .slice a3 m3 c3) (h1 : SlB w base a1 m1 c1 zs) (h3 : SlB w lo3 a3 m3 c3 ts) (hm : zs.length + ts.length ≤ 140737488355328) (hbase : base ≤ w.heap.size)
    (h : ∀ a' k' c' w', SlB w' base a' k' c' (zs ++ ts) → Below base w w' → K (a.put o.dst (.slice a' k' c')) w') :
    if Region.wanted o (yielded ops a.tmps) = true then Oper.wp Tryd.prog o a w K Q else E := by
  obtain ⟨rfl, hg1, hz1⟩ := h1
  exact step_app w hgd s x ho base _ zs ts hs hg1 a3 c3 m3 hx h3.len h3.lies h3.got.none hm hbase fun a' c' k w' hk hg hb => h a' k c' w' ⟨hk, hg, areBytes_append hz1 h3.byt⟩ hb

theorem SlB.own {w : World} {lo : Nat} {a : Option Addr} {m c : Nat} {zs : List Int} (h : SlB w lo a m c zs) : Own w lo (.slice a m c) zs := by
  obtain ⟨rfl, hg, _⟩ := h
  exact hg

set_option maxHeartbeats 8000000 in
theorem refEnc_ok (i s : Nat) (op a b n f : Int) (w : World) (hn : -2147483648 ≤ n ∧ n ≤ 2147483647) (hi : i < 43) (hop : op = (i : Int) + 1) (hc : checkN op a b n f = 0) (hsi : shapeAt i = (s : Int)) (hs14 : s < 14) (hr : regB a b n s = true) (hm : numB n f s = true) (h1s : 1 ≤ s) (hf0 : 0 ≤ f) (hf4 : f ≤ 4) (OUT : List Int) (hOut : OUT = putL ([byteAt i + f / 2] ++ regsL a b n s) (n % 4294967296) (widthN s f)) :
    Calls Tryd.prog 11 #[instV op a b n f] w fun e w' => (∃ v, e = .returned (.tuple #[v, .int .i64 0]) ∧ Own w' w.heap.size v OUT) ∧ Below w.heap.size w w' := by
  have hOutH := Hid.intro hOut
  clear hOut
  have hby := byte_range i hi
  have hw0 := Hid.intro (below_alloc w (.cells #[.int .i64 op, .int .i64 a, .int .i64 b, .int .i32 n, .int .i64 f] 27))
  have hI0 := Hid.intro (inst_new w op a b n f)
  have hcH := Hid.intro hc
  have hwr : IntKind.i64.wrap (op - 1) = (i : Int) := by rw [IntKind.wrap_i64]; omega
  have hi0 : (0 : Int) ≤ (i : Int) := by omega
  have hi1 : (i : Int) < 43 := by omega
  clear hc hop
  go_enter Tryd.func11, Tryd.ntmps11
  go_wp2_with (go_at_call 25; refine (refCheck_any _ _ _ _ _ _ hn).mono ?_; rintro e w1 ⟨rfl, hb1⟩; rw [hcH.out]; have hI1 := Hid.intro (hI0.out.below hb1 hI0.out.lt); have hw1 := Hid.intro (chain2 hw0.out hb1); clear hb1)
  clear hI0 hw0
  obtain ⟨j0, j1, j2, j3, j4, _⟩ := hI1.out
  have ja : ∀ o, (w1.alloc o).cell? ⟨w.heap.size, 0, none⟩ = some (.int .i64 op) := fun o => (hI1.out.alloc o).o
  go_cut [5] (fun v5 wx => ∃ g5, v5 = .pointer (some ⟨g5, 0, none⟩) ∧ OpAt wx g5 (nameAt i) (byteAt i) (s : Int) ∧ InstAt wx w.heap.size op a b n f ∧ Below w.heap.size w wx)
  case first =>
    go_region_with (first
      | (go_at_call 26; (with_reducible refine (refOps_row w1.drew).mono ?_); rintro e w2 ⟨b2, rfl, hbe, hsz, hb2, hrow⟩; have hb12 : Hid (Below w1.heap.size w1 w2) := chain2 ((Below.refl _ _).drew) hb2; obtain ⟨q0, q1, q2, q3, q4, _⟩ := hI1.out.below hb12.out hI1.out.lt; have qa := fun o => ((hI1.out.below hb12.out hI1.out.lt).alloc o).o; obtain ⟨r0, r1, r2⟩ := hrow.op i hi; rw [hsi] at r2; have ra0 := fun o => ((hrow.below (below_alloc w2 o) hrow.lt).op i hi).1; have ra1 := fun o => ((hrow.below (below_alloc w2 o) hrow.lt).op i hi).2.1; have ra2 := fun o => ((hrow.below (below_alloc w2 o) hrow.lt).op i hi).2.2; rw [hsi] at ra2; replace hrow := Hid.intro hrow; replace hb2 := Hid.intro hb2)
      | (go_at_call 26; (with_reducible refine (refOps_row (w1.alloc (.cells #[.string ⟨#[]⟩, .int .u8 0, .int .i64 0] 57)).drew).mono ?_); rintro e w2 ⟨b2, rfl, hbe, hsz, hb2, hrow⟩; have hb12 : Hid (Below w1.heap.size w1 w2) := chain2 ((below_alloc _ _).drew) hb2; obtain ⟨q0, q1, q2, q3, q4, _⟩ := hI1.out.below hb12.out hI1.out.lt; obtain ⟨r0, r1, r2⟩ := hrow.op i hi; rw [hsi] at r2; have hzb : Hid (w2.heap[w1.heap.size]? = some (.cells #[.string ⟨#[]⟩, .int .u8 0, .int .i64 0] 57)) := ((hb2.block w1.heap.size (by simp)).trans (heap_alloc_new w1 _)); have z0 := cell_block hzb.out 0; have z1 := cell_block hzb.out 1; have z2 := cell_block hzb.out 2; have zf := fun j => frozen_of_row w2 w1.heap.size j _ 57 hzb.out; replace hrow := Hid.intro hrow; replace hb2 := Hid.intro hb2))
    all_goals (go_wp2_with fail; go_meet)
    all_goals first
      | exact ⟨_, rfl, opAt_late _ _ _ _ _, (hI1.out.below hb12.out hI1.out.lt).alloc _, (chain2 hw1.out hb12.out).alloc (chain2 hw1.out hb12.out).size _⟩
      | exact ⟨_, rfl, opAt_set hzb.out _ _ _, (hI1.out.below (below_set3 hb12.out (Nat.le_refl _) _ _ _) hI1.out.lt), chain2 hw1.out (below_set3 hb12.out (Nat.le_refl _) _ _ _)⟩
  case rest =>
    obtain ⟨g5, rfl, hO, hI, hB⟩ := hcut
    have hIH := Hid.intro hI
    have hBH := Hid.intro hB
    obtain ⟨k0, k1, k2, k3, k4, _⟩ := hI
    obtain ⟨o0, o1, o2, _⟩ := hO
    clear hB ja j0 j1 j2 j3 j4 hI1 hw1 hwr hi0 hi1 hcH hsi
    have hF0 : ∃ F, F = byteAt i + f / 2 := ⟨_, rfl⟩
    obtain ⟨F, hF⟩ := hF0
    rw [← hF] at hOutH
    generalize byteAt i = BY at *
    generalize nameAt i = NM at *
    have hFb : Hid (AreBytes [F]) := fun z hz => by simp at hz; omega
    have hnn := Hid.intro (show 0 ≤ n % 4294967296 ∧ n % 4294967296 ≤ 4294967295 by omega)
    have hrH := Hid.intro hr
    have hmH := Hid.intro hm
    have hsF : Hid (SlB (wc.alloc (.cells #[.int .u8 F] 5)) wc.heap.size (some ⟨wc.heap.size, 0, none⟩) 1 1 [F]) := sl_new wc [F] 1 rfl (by simp) hFb.out
    have hBF := Hid.intro (hBH.out.alloc hBH.out.size (.cells #[.int .u8 F] 5))
    clear hr hm
    -- the form: 0, or 1, 2, 4
    have hform : (s ≤ 11 ∧ f = 0) ∨ (12 ≤ s ∧ (f = 1 ∨ f = 2 ∨ f = 4)) := by
      have hm := hmH.out
      rcases lim_cases s hs14 with rfl | rfl | rfl | rfl | rfl | rfl | rfl | rfl | rfl | rfl | rfl | rfl | rfl | rfl
      all_goals first
        | (left; refine ⟨by omega, ?_⟩; simp [numB, spansB] at hm; omega)
        | (right; refine ⟨by omega, fits_form (n := n) ?_⟩; simpa [numB, spansB] using hm)
    rcases hform with ⟨hsl, rfl⟩ | ⟨hsl, rfl | rfl | rfl⟩
    · obtain rfl : F = BY := by omega
      clear hF
      rcases lim_cases s hs14 with rfl | rfl | rfl | rfl | rfl | rfl | rfl | rfl | rfl | rfl | rfl | rfl | rfl | rfl
      · omega
      · have hrr := hrH.out
        simp [regB, aMax1, bMax1] at hrr
        go_wp2
        all_goals go_ret2
        all_goals exact ⟨⟨_, rfl, by rw [hOutH.out]; exact (hsF.out.mono hBH.out.size).own⟩, hBF.out⟩
      · have hrr := hrH.out
        simp [regB, aMax2, bMax2] at hrr
        have ex0 : (a) % 256 = a := by omega
        have hzx : Hid (AreBytes [a]) := fun z hz => by simp at hz; omega
        have hsX : Hid (SlB ((wc.alloc (.cells #[.int .u8 (F)] 5)).alloc (.cells #[.int .u8 (a)] 5)) (wc.heap.size + 1) (some ⟨wc.heap.size + 1, 0, none⟩) 1 1 [a]) := sl_new2 wc (.cells #[.int .u8 (F)] 5) [a] 1 rfl (by simp) hzx.out
        have hsF2 := Hid.intro (hsF.out.below (below_alloc (wc.alloc (.cells #[.int .u8 (F)] 5)) (.cells #[.int .u8 (a)] 5)))
        have hcX := Hid.intro ((below_alloc wc (.cells #[.int .u8 (F)] 5)).alloc (below_alloc wc (.cells #[.int .u8 (F)] 5)).size (.cells #[.int .u8 (a)] 5))
        go_wp2_with (at_builtin; go_must (refine app_held _ rfl _ _ rfl wc.heap.size _ 1 1 [F] _ _ 1 1 [a] rfl rfl hsF2.out hsX.out (by simp) hcX.out.size ?_); intro a6 k6 c6 w6 hs6 hb6; replace hs6 := Hid.intro hs6; replace hb6 := Hid.intro hb6)
        all_goals go_ret2
        all_goals exact ⟨⟨_, rfl, by rw [hOutH.out]; exact (hs6.out.mono hBH.out.size).own⟩, chain2 hBH.out (hcX.out.trans hb6.out)⟩
      · have hrr := hrH.out
        simp [regB, aMax3, bMax3] at hrr
        have ex0 : (a) % 256 = a := by omega
        have hzx : Hid (AreBytes [a]) := fun z hz => by simp at hz; omega
        have hsX : Hid (SlB ((wc.alloc (.cells #[.int .u8 (F)] 5)).alloc (.cells #[.int .u8 (a)] 5)) (wc.heap.size + 1) (some ⟨wc.heap.size + 1, 0, none⟩) 1 1 [a]) := sl_new2 wc (.cells #[.int .u8 (F)] 5) [a] 1 rfl (by simp) hzx.out
        have hsF2 := Hid.intro (hsF.out.below (below_alloc (wc.alloc (.cells #[.int .u8 (F)] 5)) (.cells #[.int .u8 (a)] 5)))
        have hcX := Hid.intro ((below_alloc wc (.cells #[.int .u8 (F)] 5)).alloc (below_alloc wc (.cells #[.int .u8 (F)] 5)).size (.cells #[.int .u8 (a)] 5))
        go_wp2_with (at_builtin; go_must (refine app_held _ rfl _ _ rfl wc.heap.size _ 1 1 [F] _ _ 1 1 [a] rfl rfl hsF2.out hsX.out (by simp) hcX.out.size ?_); intro a6 k6 c6 w6 hs6 hb6; replace hs6 := Hid.intro hs6; replace hb6 := Hid.intro hb6)
        all_goals go_ret2
        all_goals exact ⟨⟨_, rfl, by rw [hOutH.out]; exact (hs6.out.mono hBH.out.size).own⟩, chain2 hBH.out (hcX.out.trans hb6.out)⟩
      · have hrr := hrH.out
        simp [regB, aMax4, bMax4] at hrr
        have ex0 : (16 * a + b) % 256 = 16 * a + b := by omega
        have hzx : Hid (AreBytes [16 * a + b]) := fun z hz => by simp at hz; omega
        have hsX : Hid (SlB ((wc.alloc (.cells #[.int .u8 (F)] 5)).alloc (.cells #[.int .u8 (16 * a + b)] 5)) (wc.heap.size + 1) (some ⟨wc.heap.size + 1, 0, none⟩) 1 1 [16 * a + b]) := sl_new2 wc (.cells #[.int .u8 (F)] 5) [16 * a + b] 1 rfl (by simp) hzx.out
        have hsF2 := Hid.intro (hsF.out.below (below_alloc (wc.alloc (.cells #[.int .u8 (F)] 5)) (.cells #[.int .u8 (16 * a + b)] 5)))
        have hcX := Hid.intro ((below_alloc wc (.cells #[.int .u8 (F)] 5)).alloc (below_alloc wc (.cells #[.int .u8 (F)] 5)).size (.cells #[.int .u8 (16 * a + b)] 5))
        go_wp2_with (at_builtin; go_must (refine app_held _ rfl _ _ rfl wc.heap.size _ 1 1 [F] _ _ 1 1 [16 * a + b] rfl rfl hsF2.out hsX.out (by simp) hcX.out.size ?_); intro a6 k6 c6 w6 hs6 hb6; replace hs6 := Hid.intro hs6; replace hb6 := Hid.intro hb6)
        all_goals go_ret2
        all_goals exact ⟨⟨_, rfl, by rw [hOutH.out]; exact (hs6.out.mono hBH.out.size).own⟩, chain2 hBH.out (hcX.out.trans hb6.out)⟩
      · have hrr := hrH.out
        simp [regB, aMax5, bMax5] at hrr
        have ex0 : (16 * a + b) % 256 = 16 * a + b := by omega
        have hzx : Hid (AreBytes [16 * a + b]) := fun z hz => by simp at hz; omega
        have hsX : Hid (SlB ((wc.alloc (.cells #[.int .u8 (F)] 5)).alloc (.cells #[.int .u8 (16 * a + b)] 5)) (wc.heap.size + 1) (some ⟨wc.heap.size + 1, 0, none⟩) 1 1 [16 * a + b]) := sl_new2 wc (.cells #[.int .u8 (F)] 5) [16 * a + b] 1 rfl (by simp) hzx.out
        have hsF2 := Hid.intro (hsF.out.below (below_alloc (wc.alloc (.cells #[.int .u8 (F)] 5)) (.cells #[.int .u8 (16 * a + b)] 5)))
        have hcX := Hid.intro ((below_alloc wc (.cells #[.int .u8 (F)] 5)).alloc (below_alloc wc (.cells #[.int .u8 (F)] 5)).size (.cells #[.int .u8 (16 * a + b)] 5))
        go_wp2_with (at_builtin; go_must (refine app_held _ rfl _ _ rfl wc.heap.size _ 1 1 [F] _ _ 1 1 [16 * a + b] rfl rfl hsF2.out hsX.out (by simp) hcX.out.size ?_); intro a6 k6 c6 w6 hs6 hb6; replace hs6 := Hid.intro hs6; replace hb6 := Hid.intro hb6)
        all_goals go_ret2
        all_goals exact ⟨⟨_, rfl, by rw [hOutH.out]; exact (hs6.out.mono hBH.out.size).own⟩, chain2 hBH.out (hcX.out.trans hb6.out)⟩
      · have hrr := hrH.out
        simp [regB, aMax6, bMax6] at hrr
        have ex0 : (16 * a + b) % 256 = 16 * a + b := by omega
        have hzx : Hid (AreBytes [16 * a + b]) := fun z hz => by simp at hz; omega
        have hsX : Hid (SlB ((wc.alloc (.cells #[.int .u8 (F)] 5)).alloc (.cells #[.int .u8 (16 * a + b)] 5)) (wc.heap.size + 1) (some ⟨wc.heap.size + 1, 0, none⟩) 1 1 [16 * a + b]) := sl_new2 wc (.cells #[.int .u8 (F)] 5) [16 * a + b] 1 rfl (by simp) hzx.out
        have hsF2 := Hid.intro (hsF.out.below (below_alloc (wc.alloc (.cells #[.int .u8 (F)] 5)) (.cells #[.int .u8 (16 * a + b)] 5)))
        have hcX := Hid.intro ((below_alloc wc (.cells #[.int .u8 (F)] 5)).alloc (below_alloc wc (.cells #[.int .u8 (F)] 5)).size (.cells #[.int .u8 (16 * a + b)] 5))
        go_wp2_with (at_builtin; go_must (refine app_held _ rfl _ _ rfl wc.heap.size _ 1 1 [F] _ _ 1 1 [16 * a + b] rfl rfl hsF2.out hsX.out (by simp) hcX.out.size ?_); intro a6 k6 c6 w6 hs6 hb6; replace hs6 := Hid.intro hs6; replace hb6 := Hid.intro hb6)
        all_goals go_ret2
        all_goals exact ⟨⟨_, rfl, by rw [hOutH.out]; exact (hs6.out.mono hBH.out.size).own⟩, chain2 hBH.out (hcX.out.trans hb6.out)⟩
      · have hrr := hrH.out
        simp [regB, aMax7, bMax7, nMin7, nMax7] at hrr
        have ex0 : (a) % 256 = a := by omega
        have ex1 : (16 * b + n) % 256 = 16 * b + n := by omega
        have hzx : Hid (AreBytes [a, 16 * b + n]) := fun z hz => by simp at hz; omega
        have hsX : Hid (SlB ((wc.alloc (.cells #[.int .u8 (F)] 5)).alloc (.cells #[.int .u8 (a), .int .u8 (16 * b + n)] 5)) (wc.heap.size + 1) (some ⟨wc.heap.size + 1, 0, none⟩) 2 2 [a, 16 * b + n]) := sl_new2 wc (.cells #[.int .u8 (F)] 5) [a, 16 * b + n] 2 rfl (by simp) hzx.out
        have hsF2 := Hid.intro (hsF.out.below (below_alloc (wc.alloc (.cells #[.int .u8 (F)] 5)) (.cells #[.int .u8 (a), .int .u8 (16 * b + n)] 5)))
        have hcX := Hid.intro ((below_alloc wc (.cells #[.int .u8 (F)] 5)).alloc (below_alloc wc (.cells #[.int .u8 (F)] 5)).size (.cells #[.int .u8 (a), .int .u8 (16 * b + n)] 5))
        go_wp2_with (at_builtin; go_must (refine app_held _ rfl _ _ rfl wc.heap.size _ 1 1 [F] _ _ 2 2 [a, 16 * b + n] rfl rfl hsF2.out hsX.out (by simp) hcX.out.size ?_); intro a6 k6 c6 w6 hs6 hb6; replace hs6 := Hid.intro hs6; replace hb6 := Hid.intro hb6)
        all_goals go_ret2
        all_goals exact ⟨⟨_, rfl, by rw [hOutH.out]; exact (hs6.out.mono hBH.out.size).own⟩, chain2 hBH.out (hcX.out.trans hb6.out)⟩
      · have hrr := hrH.out
        simp [regB, aMax8, bMax8] at hrr
        have ex0 : (a) % 256 = a := by omega
        have hzx : Hid (AreBytes [a]) := fun z hz => by simp at hz; omega
        have hsX : Hid (SlB ((wc.alloc (.cells #[.int .u8 (F)] 5)).alloc (.cells #[.int .u8 (a)] 5)) (wc.heap.size + 1) (some ⟨wc.heap.size + 1, 0, none⟩) 1 1 [a]) := sl_new2 wc (.cells #[.int .u8 (F)] 5) [a] 1 rfl (by simp) hzx.out
        have hsF2 := Hid.intro (hsF.out.below (below_alloc (wc.alloc (.cells #[.int .u8 (F)] 5)) (.cells #[.int .u8 (a)] 5)))
        have hcX := Hid.intro ((below_alloc wc (.cells #[.int .u8 (F)] 5)).alloc (below_alloc wc (.cells #[.int .u8 (F)] 5)).size (.cells #[.int .u8 (a)] 5))
        have hen : IntKind.u32.wrap n = n % 4294967296 := by simp [IntKind.wrap, IntKind.bits, IntKind.signed]
        have hea : IntKind.u8.wrap a = a := by simp [IntKind.wrap, IntKind.bits, IntKind.signed]; omega
        go_wp2
        have hIF := Hid.intro (hIH.out.alloc (.cells #[.int .u8 (F)] 5))
        obtain ⟨y0, y1, y2, y3, y4, _⟩ := hIF.out
        go_region_held3 (fun W => W.cell? ⟨w.heap.size, 0, none⟩ = some (.int .i64 op) ∧ W.cell? ⟨w.heap.size, 1, none⟩ = some (.int .i64 a) ∧ W.cell? ⟨w.heap.size, 2, none⟩ = some (.int .i64 b) ∧ W.cell? ⟨w.heap.size, 3, none⟩ = some (.int .i32 n) ∧ W.cell? ⟨w.heap.size, 4, none⟩ = some (.int .i64 0)) (go_keep)
          ((first
            | (refine step_held _ rfl _ _ rfl wc.heap.size _ 1 1 [F] _ _ 1 1 [a] rfl rfl (hsF2.out.below ((Below.refl _ _).drew)) (hsX.out.below ((Below.refl _ _).drew)) (by simp) hcX.out.drew.size ?_; intro a6 k6 c6 w6 hs6 hb6; have hc6 : Hid (Below wc.heap.size wc w6) := hcX.out.drew.trans hb6; obtain ⟨p0, p1, p2, p3, p4, _⟩ := hIH.out.below hc6.out hIH.out.lt; replace hs6 := Hid.intro hs6; replace hb6 := Hid.intro hb6)
            | (go_at_call 27; (with_reducible refine (refPut_held a6 k6 c6 ([F] ++ [a]) (n % 4294967296) 1 wc.heap.size _ hs6.out (by simp) hnn.out).mono ?_); rintro e w7 ⟨a7, m7, c7, rfl, hs7, hb7⟩; obtain ⟨p0, p1, p2, p3, p4, _⟩ := (hIH.out.below hc6.out hIH.out.lt).below hb7 (hIH.out.below hc6.out hIH.out.lt).lt; replace hs7 := Hid.intro hs7; replace hb7 := Hid.intro hb7)))
        all_goals go_wp2_with fail
        all_goals go_ret2
        all_goals exact ⟨⟨_, rfl, by rw [hOutH.out]; exact (hs7.out.mono (Nat.le_trans hBH.out.size hc6.out.size)).own⟩, chain2 (chain2 hBH.out hc6.out) hb7.out⟩
      · have hrr := hrH.out
        simp [regB, aMax9, bMax9] at hrr
        go_wp2_with (go_at_call 27; (with_reducible refine (refPut_held _ 1 1 [F] (n % 4294967296) 1 wc.heap.size _ hsF.out (by simp) hnn.out).mono ?_); rintro e w7 ⟨a7, m7, c7, rfl, hs7, hb7⟩; replace hs7 := Hid.intro hs7; replace hb7 := Hid.intro hb7)
        all_goals go_ret2
        all_goals exact ⟨⟨_, rfl, by rw [hOutH.out]; exact (hs7.out.mono hBF.out.size).own⟩, chain2 hBF.out hb7.out⟩
      · have hrr := hrH.out
        simp [regB, aMax10, bMax10] at hrr
        have ex0 : (a) % 256 = a := by omega
        have hzx : Hid (AreBytes [a]) := fun z hz => by simp at hz; omega
        have hsX : Hid (SlB ((wc.alloc (.cells #[.int .u8 (F)] 5)).alloc (.cells #[.int .u8 (a)] 5)) (wc.heap.size + 1) (some ⟨wc.heap.size + 1, 0, none⟩) 1 1 [a]) := sl_new2 wc (.cells #[.int .u8 (F)] 5) [a] 1 rfl (by simp) hzx.out
        have hsF2 := Hid.intro (hsF.out.below (below_alloc (wc.alloc (.cells #[.int .u8 (F)] 5)) (.cells #[.int .u8 (a)] 5)))
        have hcX := Hid.intro ((below_alloc wc (.cells #[.int .u8 (F)] 5)).alloc (below_alloc wc (.cells #[.int .u8 (F)] 5)).size (.cells #[.int .u8 (a)] 5))
        have hen : IntKind.u32.wrap n = n % 4294967296 := by simp [IntKind.wrap, IntKind.bits, IntKind.signed]
        have hea : IntKind.u8.wrap a = a := by simp [IntKind.wrap, IntKind.bits, IntKind.signed]; omega
        go_wp2
        have hIF := Hid.intro (hIH.out.alloc (.cells #[.int .u8 (F)] 5))
        obtain ⟨y0, y1, y2, y3, y4, _⟩ := hIF.out
        go_region_held3 (fun W => W.cell? ⟨w.heap.size, 0, none⟩ = some (.int .i64 op) ∧ W.cell? ⟨w.heap.size, 1, none⟩ = some (.int .i64 a) ∧ W.cell? ⟨w.heap.size, 2, none⟩ = some (.int .i64 b) ∧ W.cell? ⟨w.heap.size, 3, none⟩ = some (.int .i32 n) ∧ W.cell? ⟨w.heap.size, 4, none⟩ = some (.int .i64 0)) (go_keep)
          ((first
            | (refine step_held _ rfl _ _ rfl wc.heap.size _ 1 1 [F] _ _ 1 1 [a] rfl rfl (hsF2.out.below ((Below.refl _ _).drew)) (hsX.out.below ((Below.refl _ _).drew)) (by simp) hcX.out.drew.size ?_; intro a6 k6 c6 w6 hs6 hb6; have hc6 : Hid (Below wc.heap.size wc w6) := hcX.out.drew.trans hb6; obtain ⟨p0, p1, p2, p3, p4, _⟩ := hIH.out.below hc6.out hIH.out.lt; replace hs6 := Hid.intro hs6; replace hb6 := Hid.intro hb6)
            | (go_at_call 27; (with_reducible refine (refPut_held a6 k6 c6 ([F] ++ [a]) (n % 4294967296) 4 wc.heap.size _ hs6.out (by simp) hnn.out).mono ?_); rintro e w7 ⟨a7, m7, c7, rfl, hs7, hb7⟩; obtain ⟨p0, p1, p2, p3, p4, _⟩ := (hIH.out.below hc6.out hIH.out.lt).below hb7 (hIH.out.below hc6.out hIH.out.lt).lt; replace hs7 := Hid.intro hs7; replace hb7 := Hid.intro hb7)))
        all_goals go_wp2_with fail
        all_goals go_ret2
        all_goals exact ⟨⟨_, rfl, by rw [hOutH.out]; exact (hs7.out.mono (Nat.le_trans hBH.out.size hc6.out.size)).own⟩, chain2 (chain2 hBH.out hc6.out) hb7.out⟩
      · have hrr := hrH.out
        simp [regB, aMax11, bMax11] at hrr
        have ex0 : (a) % 256 = a := by omega
        have hzx : Hid (AreBytes [a]) := fun z hz => by simp at hz; omega
        have hsX : Hid (SlB ((wc.alloc (.cells #[.int .u8 (F)] 5)).alloc (.cells #[.int .u8 (a)] 5)) (wc.heap.size + 1) (some ⟨wc.heap.size + 1, 0, none⟩) 1 1 [a]) := sl_new2 wc (.cells #[.int .u8 (F)] 5) [a] 1 rfl (by simp) hzx.out
        have hsF2 := Hid.intro (hsF.out.below (below_alloc (wc.alloc (.cells #[.int .u8 (F)] 5)) (.cells #[.int .u8 (a)] 5)))
        have hcX := Hid.intro ((below_alloc wc (.cells #[.int .u8 (F)] 5)).alloc (below_alloc wc (.cells #[.int .u8 (F)] 5)).size (.cells #[.int .u8 (a)] 5))
        have hen : IntKind.u32.wrap n = n % 4294967296 := by simp [IntKind.wrap, IntKind.bits, IntKind.signed]
        have hea : IntKind.u8.wrap a = a := by simp [IntKind.wrap, IntKind.bits, IntKind.signed]; omega
        go_wp2
        have hIF := Hid.intro (hIH.out.alloc (.cells #[.int .u8 (F)] 5))
        obtain ⟨y0, y1, y2, y3, y4, _⟩ := hIF.out
        go_region_held3 (fun W => W.cell? ⟨w.heap.size, 0, none⟩ = some (.int .i64 op) ∧ W.cell? ⟨w.heap.size, 1, none⟩ = some (.int .i64 a) ∧ W.cell? ⟨w.heap.size, 2, none⟩ = some (.int .i64 b) ∧ W.cell? ⟨w.heap.size, 3, none⟩ = some (.int .i32 n) ∧ W.cell? ⟨w.heap.size, 4, none⟩ = some (.int .i64 0)) (go_keep)
          ((first
            | (refine step_held _ rfl _ _ rfl wc.heap.size _ 1 1 [F] _ _ 1 1 [a] rfl rfl (hsF2.out.below ((Below.refl _ _).drew)) (hsX.out.below ((Below.refl _ _).drew)) (by simp) hcX.out.drew.size ?_; intro a6 k6 c6 w6 hs6 hb6; have hc6 : Hid (Below wc.heap.size wc w6) := hcX.out.drew.trans hb6; obtain ⟨p0, p1, p2, p3, p4, _⟩ := hIH.out.below hc6.out hIH.out.lt; replace hs6 := Hid.intro hs6; replace hb6 := Hid.intro hb6)
            | (go_at_call 27; (with_reducible refine (refPut_held a6 k6 c6 ([F] ++ [a]) (n % 4294967296) 2 wc.heap.size _ hs6.out (by simp) hnn.out).mono ?_); rintro e w7 ⟨a7, m7, c7, rfl, hs7, hb7⟩; obtain ⟨p0, p1, p2, p3, p4, _⟩ := (hIH.out.below hc6.out hIH.out.lt).below hb7 (hIH.out.below hc6.out hIH.out.lt).lt; replace hs7 := Hid.intro hs7; replace hb7 := Hid.intro hb7)))
        all_goals go_wp2_with fail
        all_goals go_ret2
        all_goals exact ⟨⟨_, rfl, by rw [hOutH.out]; exact (hs7.out.mono (Nat.le_trans hBH.out.size hc6.out.size)).own⟩, chain2 (chain2 hBH.out hc6.out) hb7.out⟩
      · omega
      · omega
    · obtain rfl : F = BY := by omega
      clear hF
      obtain rfl | rfl : s = 12 ∨ s = 13 := by omega
      · have hrr := hrH.out
        simp [regB, aMax12, bMax12] at hrr
        go_wp2_with (go_at_call 27; (with_reducible refine (refPut_held _ 1 1 [F] (n % 4294967296) 1 wc.heap.size _ hsF.out (by simp) hnn.out).mono ?_); rintro e w7 ⟨a7, m7, c7, rfl, hs7, hb7⟩; replace hs7 := Hid.intro hs7; replace hb7 := Hid.intro hb7)
        all_goals go_ret2
        all_goals exact ⟨⟨_, rfl, by rw [hOutH.out]; exact (hs7.out.mono hBF.out.size).own⟩, chain2 hBF.out hb7.out⟩
      · have hrr := hrH.out
        simp [regB, aMax13, bMax13] at hrr
        have ex0 : (a) % 256 = a := by omega
        have hzx : Hid (AreBytes [a]) := fun z hz => by simp at hz; omega
        have hsX : Hid (SlB ((wc.alloc (.cells #[.int .u8 (F)] 5)).alloc (.cells #[.int .u8 (a)] 5)) (wc.heap.size + 1) (some ⟨wc.heap.size + 1, 0, none⟩) 1 1 [a]) := sl_new2 wc (.cells #[.int .u8 (F)] 5) [a] 1 rfl (by simp) hzx.out
        have hsF2 := Hid.intro (hsF.out.below (below_alloc (wc.alloc (.cells #[.int .u8 (F)] 5)) (.cells #[.int .u8 (a)] 5)))
        have hcX := Hid.intro ((below_alloc wc (.cells #[.int .u8 (F)] 5)).alloc (below_alloc wc (.cells #[.int .u8 (F)] 5)).size (.cells #[.int .u8 (a)] 5))
        have hen : IntKind.u32.wrap n = n % 4294967296 := by simp [IntKind.wrap, IntKind.bits, IntKind.signed]
        have hea : IntKind.u8.wrap a = a := by simp [IntKind.wrap, IntKind.bits, IntKind.signed]; omega
        go_wp2
        have hIF := Hid.intro (hIH.out.alloc (.cells #[.int .u8 (F)] 5))
        obtain ⟨y0, y1, y2, y3, y4, _⟩ := hIF.out
        go_region_held3 (fun W => W.cell? ⟨w.heap.size, 0, none⟩ = some (.int .i64 op) ∧ W.cell? ⟨w.heap.size, 1, none⟩ = some (.int .i64 a) ∧ W.cell? ⟨w.heap.size, 2, none⟩ = some (.int .i64 b) ∧ W.cell? ⟨w.heap.size, 3, none⟩ = some (.int .i32 n) ∧ W.cell? ⟨w.heap.size, 4, none⟩ = some (.int .i64 1)) (go_keep)
          ((first
            | (refine step_held _ rfl _ _ rfl wc.heap.size _ 1 1 [F] _ _ 1 1 [a] rfl rfl (hsF2.out.below ((Below.refl _ _).drew)) (hsX.out.below ((Below.refl _ _).drew)) (by simp) hcX.out.drew.size ?_; intro a6 k6 c6 w6 hs6 hb6; have hc6 : Hid (Below wc.heap.size wc w6) := hcX.out.drew.trans hb6; obtain ⟨p0, p1, p2, p3, p4, _⟩ := hIH.out.below hc6.out hIH.out.lt; replace hs6 := Hid.intro hs6; replace hb6 := Hid.intro hb6)
            | (go_at_call 27; (with_reducible refine (refPut_held a6 k6 c6 ([F] ++ [a]) (n % 4294967296) 1 wc.heap.size _ hs6.out (by simp) hnn.out).mono ?_); rintro e w7 ⟨a7, m7, c7, rfl, hs7, hb7⟩; obtain ⟨p0, p1, p2, p3, p4, _⟩ := (hIH.out.below hc6.out hIH.out.lt).below hb7 (hIH.out.below hc6.out hIH.out.lt).lt; replace hs7 := Hid.intro hs7; replace hb7 := Hid.intro hb7)))
        all_goals go_wp2_with fail
        all_goals go_ret2
        all_goals exact ⟨⟨_, rfl, by rw [hOutH.out]; exact (hs7.out.mono (Nat.le_trans hBH.out.size hc6.out.size)).own⟩, chain2 (chain2 hBH.out hc6.out) hb7.out⟩
    · obtain rfl : F = BY + 1 := by omega
      clear hF
      have eF : (BY + 1) % 256 = BY + 1 := by omega
      obtain rfl | rfl : s = 12 ∨ s = 13 := by omega
      · have hrr := hrH.out
        simp [regB, aMax12, bMax12] at hrr
        go_wp2_with (go_at_call 27; (with_reducible refine (refPut_held _ 1 1 [BY + 1] (n % 4294967296) 2 wc.heap.size _ hsF.out (by simp) hnn.out).mono ?_); rintro e w7 ⟨a7, m7, c7, rfl, hs7, hb7⟩; replace hs7 := Hid.intro hs7; replace hb7 := Hid.intro hb7)
        all_goals go_ret2
        all_goals exact ⟨⟨_, rfl, by rw [hOutH.out]; exact (hs7.out.mono hBF.out.size).own⟩, chain2 hBF.out hb7.out⟩
      · have hrr := hrH.out
        simp [regB, aMax13, bMax13] at hrr
        have ex0 : (a) % 256 = a := by omega
        have hzx : Hid (AreBytes [a]) := fun z hz => by simp at hz; omega
        have hsX : Hid (SlB ((wc.alloc (.cells #[.int .u8 (BY + 1)] 5)).alloc (.cells #[.int .u8 (a)] 5)) (wc.heap.size + 1) (some ⟨wc.heap.size + 1, 0, none⟩) 1 1 [a]) := sl_new2 wc (.cells #[.int .u8 (BY + 1)] 5) [a] 1 rfl (by simp) hzx.out
        have hsF2 := Hid.intro (hsF.out.below (below_alloc (wc.alloc (.cells #[.int .u8 (BY + 1)] 5)) (.cells #[.int .u8 (a)] 5)))
        have hcX := Hid.intro ((below_alloc wc (.cells #[.int .u8 (BY + 1)] 5)).alloc (below_alloc wc (.cells #[.int .u8 (BY + 1)] 5)).size (.cells #[.int .u8 (a)] 5))
        have hen : IntKind.u32.wrap n = n % 4294967296 := by simp [IntKind.wrap, IntKind.bits, IntKind.signed]
        have hea : IntKind.u8.wrap a = a := by simp [IntKind.wrap, IntKind.bits, IntKind.signed]; omega
        go_wp2
        have hIF := Hid.intro (hIH.out.alloc (.cells #[.int .u8 (BY + 1)] 5))
        obtain ⟨y0, y1, y2, y3, y4, _⟩ := hIF.out
        go_region_held3 (fun W => W.cell? ⟨w.heap.size, 0, none⟩ = some (.int .i64 op) ∧ W.cell? ⟨w.heap.size, 1, none⟩ = some (.int .i64 a) ∧ W.cell? ⟨w.heap.size, 2, none⟩ = some (.int .i64 b) ∧ W.cell? ⟨w.heap.size, 3, none⟩ = some (.int .i32 n) ∧ W.cell? ⟨w.heap.size, 4, none⟩ = some (.int .i64 2)) (go_keep)
          ((first
            | (refine step_held _ rfl _ _ rfl wc.heap.size _ 1 1 [BY + 1] _ _ 1 1 [a] rfl rfl (hsF2.out.below ((Below.refl _ _).drew)) (hsX.out.below ((Below.refl _ _).drew)) (by simp) hcX.out.drew.size ?_; intro a6 k6 c6 w6 hs6 hb6; have hc6 : Hid (Below wc.heap.size wc w6) := hcX.out.drew.trans hb6; obtain ⟨p0, p1, p2, p3, p4, _⟩ := hIH.out.below hc6.out hIH.out.lt; replace hs6 := Hid.intro hs6; replace hb6 := Hid.intro hb6)
            | (go_at_call 27; (with_reducible refine (refPut_held a6 k6 c6 ([BY + 1] ++ [a]) (n % 4294967296) 2 wc.heap.size _ hs6.out (by simp) hnn.out).mono ?_); rintro e w7 ⟨a7, m7, c7, rfl, hs7, hb7⟩; obtain ⟨p0, p1, p2, p3, p4, _⟩ := (hIH.out.below hc6.out hIH.out.lt).below hb7 (hIH.out.below hc6.out hIH.out.lt).lt; replace hs7 := Hid.intro hs7; replace hb7 := Hid.intro hb7)))
        all_goals go_wp2_with fail
        all_goals go_ret2
        all_goals exact ⟨⟨_, rfl, by rw [hOutH.out]; exact (hs7.out.mono (Nat.le_trans hBH.out.size hc6.out.size)).own⟩, chain2 (chain2 hBH.out hc6.out) hb7.out⟩
    · obtain rfl : F = BY + 2 := by omega
      clear hF
      have eF : (BY + 2) % 256 = BY + 2 := by omega
      obtain rfl | rfl : s = 12 ∨ s = 13 := by omega
      · have hrr := hrH.out
        simp [regB, aMax12, bMax12] at hrr
        go_wp2_with (go_at_call 27; (with_reducible refine (refPut_held _ 1 1 [BY + 2] (n % 4294967296) 4 wc.heap.size _ hsF.out (by simp) hnn.out).mono ?_); rintro e w7 ⟨a7, m7, c7, rfl, hs7, hb7⟩; replace hs7 := Hid.intro hs7; replace hb7 := Hid.intro hb7)
        all_goals go_ret2
        all_goals exact ⟨⟨_, rfl, by rw [hOutH.out]; exact (hs7.out.mono hBF.out.size).own⟩, chain2 hBF.out hb7.out⟩
      · have hrr := hrH.out
        simp [regB, aMax13, bMax13] at hrr
        have ex0 : (a) % 256 = a := by omega
        have hzx : Hid (AreBytes [a]) := fun z hz => by simp at hz; omega
        have hsX : Hid (SlB ((wc.alloc (.cells #[.int .u8 (BY + 2)] 5)).alloc (.cells #[.int .u8 (a)] 5)) (wc.heap.size + 1) (some ⟨wc.heap.size + 1, 0, none⟩) 1 1 [a]) := sl_new2 wc (.cells #[.int .u8 (BY + 2)] 5) [a] 1 rfl (by simp) hzx.out
        have hsF2 := Hid.intro (hsF.out.below (below_alloc (wc.alloc (.cells #[.int .u8 (BY + 2)] 5)) (.cells #[.int .u8 (a)] 5)))
        have hcX := Hid.intro ((below_alloc wc (.cells #[.int .u8 (BY + 2)] 5)).alloc (below_alloc wc (.cells #[.int .u8 (BY + 2)] 5)).size (.cells #[.int .u8 (a)] 5))
        have hen : IntKind.u32.wrap n = n % 4294967296 := by simp [IntKind.wrap, IntKind.bits, IntKind.signed]
        have hea : IntKind.u8.wrap a = a := by simp [IntKind.wrap, IntKind.bits, IntKind.signed]; omega
        go_wp2
        have hIF := Hid.intro (hIH.out.alloc (.cells #[.int .u8 (BY + 2)] 5))
        obtain ⟨y0, y1, y2, y3, y4, _⟩ := hIF.out
        go_region_held3 (fun W => W.cell? ⟨w.heap.size, 0, none⟩ = some (.int .i64 op) ∧ W.cell? ⟨w.heap.size, 1, none⟩ = some (.int .i64 a) ∧ W.cell? ⟨w.heap.size, 2, none⟩ = some (.int .i64 b) ∧ W.cell? ⟨w.heap.size, 3, none⟩ = some (.int .i32 n) ∧ W.cell? ⟨w.heap.size, 4, none⟩ = some (.int .i64 4)) (go_keep)
          ((first
            | (refine step_held _ rfl _ _ rfl wc.heap.size _ 1 1 [BY + 2] _ _ 1 1 [a] rfl rfl (hsF2.out.below ((Below.refl _ _).drew)) (hsX.out.below ((Below.refl _ _).drew)) (by simp) hcX.out.drew.size ?_; intro a6 k6 c6 w6 hs6 hb6; have hc6 : Hid (Below wc.heap.size wc w6) := hcX.out.drew.trans hb6; obtain ⟨p0, p1, p2, p3, p4, _⟩ := hIH.out.below hc6.out hIH.out.lt; replace hs6 := Hid.intro hs6; replace hb6 := Hid.intro hb6)
            | (go_at_call 27; (with_reducible refine (refPut_held a6 k6 c6 ([BY + 2] ++ [a]) (n % 4294967296) 4 wc.heap.size _ hs6.out (by simp) hnn.out).mono ?_); rintro e w7 ⟨a7, m7, c7, rfl, hs7, hb7⟩; obtain ⟨p0, p1, p2, p3, p4, _⟩ := (hIH.out.below hc6.out hIH.out.lt).below hb7 (hIH.out.below hc6.out hIH.out.lt).lt; replace hs7 := Hid.intro hs7; replace hb7 := Hid.intro hb7)))
        all_goals go_wp2_with fail
        all_goals go_ret2
        all_goals exact ⟨⟨_, rfl, by rw [hOutH.out]; exact (hs7.out.mono (Nat.le_trans hBH.out.size hc6.out.size)).own⟩, chain2 (chain2 hBH.out hc6.out) hb7.out⟩

theorem refEnc_held (op a b n f : Int) (w : World) (hn : -2147483648 ≤ n ∧ n ≤ 2147483647) :
    Calls Tryd.prog 11 #[instV op a b n f] w fun e w' => ∃ a' m c, e = .returned (.tuple #[.slice a' m c, .int .i64 (checkN op a b n f)]) ∧ SlB w' w.heap.size a' m c (encR op a b n f) ∧ Below w.heap.size w w' := by
  by_cases hc : checkN op a b n f = 0
  · obtain ⟨hop, hr, hm, hf0, hf4⟩ := check_ok hc
    obtain ⟨s, hs, hs14, hsn⟩ := shape_nat op
    rw [hsn] at hr hm
    obtain ⟨i, hi⟩ : ∃ i : Nat, op = (i : Int) + 1 := ⟨(op - 1).toNat, by omega⟩
    have hii : (op - 1).toNat = i := by omega
    have hsi : shapeAt i = (s : Int) := by rw [← hs, shapeN, if_pos hop, hii]
    have h1 : 1 ≤ s := by have := shapeN_some hop; omega
    have e1 : encR op a b n f = encL op a b n f := by rw [encR, if_pos hc]
    have e2 : encL op a b n f = putL ([byteAt i + f / 2] ++ regsL a b n s) (n % 4294967296) (widthN s f) := by rw [encL, hsn, hii]
    refine (refEnc_ok i s op a b n f w hn (by omega) hi hc hsi hs14 hr hm h1 hf0 hf4 (encL op a b n f) e2).mono ?_
    rintro e w' ⟨⟨v, rfl, ho⟩, hb⟩
    obtain ⟨a', c, rfl, hg⟩ := own_got ho
    rw [e1, hc]
    exact ⟨a', _, c, rfl, ⟨rfl, hg, encL_bytes hc⟩, hb⟩
  · refine (refEnc_bad op a b n f w hn hc).mono ?_
    rintro e w' ⟨rfl, hb⟩
    have e1 : encR op a b n f = [] := by rw [encR, if_neg hc]
    rw [e1]
    exact ⟨none, 0, 0, rfl, ⟨rfl, World.ownsRow_nil _ _ _ _, fun z hz => by cases hz⟩, hb⟩
end Go.Proofs.YtmpckkogllnkkaaDoor
