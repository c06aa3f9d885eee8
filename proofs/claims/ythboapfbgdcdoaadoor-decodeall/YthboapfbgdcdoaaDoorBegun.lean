/- decode.begun: the operation and the form of a first byte. -/
import Derived.Test.YthboapfbgdcdoaaDoorDecM
import Derived.Test.YthboapfbgdcdoaaDoorXSpans
namespace Go.Proofs.YthboapfbgdcdoaaDoor
open Go.ChangeShapes Go.WideShapes Go.ChangeAt Go.RowKit
set_option linter.unusedVariables false
set_option maxRecDepth 100000

/-- block g is an instruction of noughts -/
def ZBlk (w : World) (g : Nat) : Prop := w.heap[g]? = some (.cells #[.int .i64 0, .int .i64 0, .int .i64 0, .int .i32 0, .int .i64 0] 26)
theorem ZBlk.lt {w : World} {g : Nat} (h : ZBlk w g) : g < w.heap.size := (Array.getElem?_eq_some_iff.1 h).1
theorem ZBlk.below {w w' : World} {g B : Nat} (h : ZBlk w g) (hb : Below B w w') (hB : g < B) : ZBlk w' g := (hb.block g hB).trans h
theorem zblk_new (w : World) : ZBlk (w.alloc (.cells #[.int .i64 0, .int .i64 0, .int .i64 0, .int .i32 0, .int .i64 0] 26)) w.heap.size := heap_alloc_new w _
theorem ZBlk.cells {w : World} {g : Nat} (h : ZBlk w g) : w.cell? ⟨g, 0, none⟩ = some (.int .i64 0) ∧ w.cell? ⟨g, 1, none⟩ = some (.int .i64 0) ∧ w.cell? ⟨g, 2, none⟩ = some (.int .i64 0) ∧ w.cell? ⟨g, 3, none⟩ = some (.int .i32 0) ∧ w.cell? ⟨g, 4, none⟩ = some (.int .i64 0) ∧ ∀ j, w.frozen? ⟨g, j, none⟩ = false :=
  ⟨(cell_block h 0).trans rfl, (cell_block h 1).trans rfl, (cell_block h 2).trans rfl, (cell_block h 3).trans rfl, (cell_block h 4).trans rfl, fun j => frozen_of_row w g j _ 26 h⟩

/-- an instruction laid into a block -/
def setInst (w : World) (g : Nat) (o a b n f : Int) : World := ((((w.setCell ⟨g, 0, none⟩ (.int .i64 o)).setCell ⟨g, 1, none⟩ (.int .i64 a)).setCell ⟨g, 2, none⟩ (.int .i64 b)).setCell ⟨g, 3, none⟩ (.int .i32 n)).setCell ⟨g, 4, none⟩ (.int .i64 f)
theorem ZBlk.set {w : World} {g : Nat} (h : ZBlk w g) (o a b n f : Int) : InstAt (setInst w g o a b n f) g o a b n f := by
  have h1 := heap_setCell_same w g 0 _ 26 (.int .i64 o) h
  have h2 := heap_setCell_same _ g 1 _ 26 (.int .i64 a) h1
  have h3 := heap_setCell_same _ g 2 _ 26 (.int .i64 b) h2
  have h4 := heap_setCell_same _ g 3 _ 26 (.int .i32 n) h3
  have h5 := heap_setCell_same _ g 4 _ 26 (.int .i64 f) h4
  exact ⟨(cell_block h5 0).trans (by simp), (cell_block h5 1).trans (by simp), (cell_block h5 2).trans (by simp), (cell_block h5 3).trans (by simp), (cell_block h5 4).trans (by simp), (Array.getElem?_eq_some_iff.1 h5).1⟩
theorem below_setInst {w w' : World} {B g : Nat} (h : Below B w w') (hg : B ≤ g) (o a b n f : Int) : Below B w (setInst w' g o a b n f) :=
  Below.setCell (p := ⟨g, 4, none⟩) (Below.setCell (p := ⟨g, 3, none⟩) (Below.setCell (p := ⟨g, 2, none⟩) (Below.setCell (p := ⟨g, 1, none⟩) (Below.setCell (p := ⟨g, 0, none⟩) h hg _) hg _) hg _) hg _) hg _

/-- what begun answers -/
def begV (c : Int) : Value := if begI c < 43 then .tuple #[instV (opI c) 0 0 0 (frmI c), .bool true] else .tuple #[instV 0 0 0 0 0, .bool false]

theorem atE_none (w : World) (hT : Tab w) : Calls Tryd.prog 18 #[.int .i64 44] w fun e w' => e = .returned (.tuple #[opV [] 0 0, .bool false]) ∧ Below w.heap.size w w' :=
  (at_any _ w hT).mono fun e w' ⟨he, hb⟩ => ⟨by rw [he, atV, if_neg (by omega)], hb⟩

theorem op_new1 (w : World) (s : List UInt8) (b h : Int) : (w.alloc (.cells #[.string (str s), .int .u8 b, .int .i64 h] 51)).cell? ⟨w.heap.size, 1, none⟩ = some (.int .u8 b) := (cell_block (heap_alloc_new w _) 1).trans rfl

set_option maxHeartbeats 4000000 in
theorem begun_any (c : Int) (hc0 : 0 ≤ c) (hc1 : c ≤ 255) (w : World) (hT : Tab w) :
    Calls Tryd.prog 35 #[.int .u8 c] w fun e w' => e = .returned (begV c) ∧ Below w.heap.size w w' := by
  have hb0 := Hid.intro (below_alloc w (.cells #[.int .i64 0, .int .i64 0, .int .i64 0, .int .i32 0, .int .i64 0] 26))
  have hz0 := Hid.intro (zblk_new w)
  have hT0 := Hid.intro (hT.alloc (.cells #[.int .i64 0, .int .i64 0, .int .i64 0, .int .i32 0, .int .i64 0] 26))
  clear hT
  obtain ⟨V, hV⟩ : ∃ V, V = begV c := ⟨_, rfl⟩
  rw [← hV]
  have hVH := Hid.intro hV
  clear hV
  go_enter Tryd.func35, Tryd.ntmps35
  go_wp2
  generalize w.alloc (.cells #[.int .i64 0, .int .i64 0, .int .i64 0, .int .i32 0, .int .i64 0] 26) = w0 at *
  go_loopw [4] (fun vi wr => ∃ (i : Nat), i ≤ 43 ∧ vi = .int .i64 ((i : Int) + 1) ∧ Hid (∀ j, j < i → hitB j c = false) ∧ Hid (Below w0.heap.size w0 wr)) (fun vi _ => 44 - (intOf vi).toNat)
  case atStart => exact ⟨0, by omega, rfl, fun j hj => by omega, Below.refl _ _⟩
  case round =>
    obtain ⟨i, hi, rfl, hI, hB⟩ := hrel
    have hTr := Hid.intro (hT0.out.below hB.out hT0.out.size)
    by_cases hlt : i < 43
    · have hby := byte_range i hlt
      have hAt := Hid.intro (fun W hW => atE_parts i hlt W hW)
      have hSp : Hid (spansB (shapeN ((i : Int) + 1)) = spansB (shapeAt i)) := by
        show _ = _
        rw [shapeN, if_pos (by omega), show ((i : Int) + 1 - 1).toNat = i by omega]
      have hhit : Hid (hitB i c = if spansB (shapeAt i) then decide (byteAt i ≤ c) && decide (c ≤ byteAt i + 2) else decide (c = byteAt i)) := rfl
      have hfrm : Hid (formI i c = if spansB (shapeAt i) then 2 ^ (c - byteAt i).toNat else 0) := rfl
      have hval : Hid (hitB i c = true → V = .tuple #[instV ((i : Int) + 1) 0 0 0 (formI i c), .bool true]) := fun h => by
        rw [hVH.out, begV, begI_hit hlt h hI.out, if_pos hlt, opI, frmI, begI_hit hlt h hI.out]
      have hnext : Hid (hitB i c = false → ∀ j, j < i + 1 → hitB j c = false) := fun h j hj => by
        by_cases hji : j = i
        · subst hji; exact h
        · exact hI.out j (by omega)
      generalize nameAt i = NM at *
      generalize byteAt i = BY at *
      generalize shapeAt i = SH at *
      cases hsp : spansB SH with
      | false =>
        rw [hsp] at hSp
        have hhit' := hhit.out
        have hfrm' := hfrm.out
        rw [hsp] at hhit' hfrm'
        simp only [Bool.false_eq_true, if_false] at hhit' hfrm'
        by_cases hcb : c = BY
        · have hv := Hid.intro (hval.out (by rw [hhit']; exact decide_eq_true hcb))
          rw [hfrm'] at hv
          subst hcb
          clear hI hhit hfrm hhit' hfrm' hval hnext hsp
          go_wp2_with (first
            | (go_at_call 18; (with_reducible refine (hAt.out _ hTr.out).mono ?_); rintro e w1 ⟨rfl, hb1⟩; have hw1 := Hid.intro (chain2 hB.out hb1); have hT1 := Hid.intro (hTr.out.below hb1 hTr.out.size); clear hb1; have k1 := op_new1 w1 NM c SH; obtain ⟨z0, z1, z2, z3, z4, zf⟩ := (hz0.out.below (chain2 hw1.out (below_alloc w1 (.cells #[.string (str NM), .int .u8 c, .int .i64 SH] 51))) hz0.out.lt).cells; have hwl := Hid.intro (chain2 hw1.out (below_alloc w1 (.cells #[.string (str NM), .int .u8 c, .int .i64 SH] 51))))
            | (go_at_call 50; (with_reducible refine (spansOp_any _ _ (hT1.out.alloc _)).mono ?_); rintro e w2 ⟨rfl, hb2⟩; rw [hSp.out]; have hw2 := Hid.intro (chain2 (chain2 hw1.out (below_alloc w1 _)) hb2); have k1 := (hb2.cell (p := ⟨w1.heap.size, 1, none⟩) (by simp)).trans (op_new1 w1 NM c SH); obtain ⟨z0, z1, z2, z3, z4, zf⟩ := (hz0.out.below hw2.out hz0.out.lt).cells; replace hwl := hw2; have hT2 := Hid.intro ((hT1.out.alloc _).below hb2 (hT1.out.alloc _).size); replace hb2 := Hid.intro hb2)
            | (go_at_call 50; (with_reducible refine (spansOp_any _ _ hT2.out).mono ?_); rintro e w3 ⟨rfl, hb3⟩; rw [hSp.out]; have hw3 := Hid.intro (chain2 hw2.out hb3); have hb23 := Hid.intro (chain2 hb2.out hb3); have k1 := (hb23.out.cell (p := ⟨w1.heap.size, 1, none⟩) (by simp)).trans (op_new1 w1 NM c SH); obtain ⟨z0, z1, z2, z3, z4, zf⟩ := (hz0.out.below hw3.out hz0.out.lt).cells; replace hwl := hw3; clear hb3))
          have hset := (hz0.out.below hwl.out hz0.out.lt).set ((i : Int) + 1) 0 0 0 0
          have hbw := below_setInst (hb0.out.trans (hwl.out.mono hb0.out.size)) (Nat.le_refl w.heap.size) ((i : Int) + 1) 0 0 0 0
          change bodyPost _ _ _ _ _ (setInst _ w.heap.size ((i : Int) + 1) 0 0 0 0)
          generalize setInst _ w.heap.size ((i : Int) + 1) 0 0 0 0 = WW at *
          obtain ⟨y0, y1, y2, y3, y4, _⟩ := hset
          refine bodyPost_ret (by simp [results, Tryd.results35, go_sem, y0, y1, y2, y3, y4]; try rfl) rfl ?_
          exact ⟨by rw [hv.out], hbw⟩
        · have hn := Hid.intro (hnext.out (by rw [hhit']; exact decide_eq_false hcb))
          have e1 : (c == BY) = false := by simpa using hcb
          clear hI hhit hfrm hhit' hfrm' hval hnext hsp hcb
          by_cases h3 : BY ≤ c
          · by_cases h4 : c ≤ BY + 2
            · have ew : (BY + 2) % 256 = BY + 2 := by omega
              go_wp2_with (first
                | (go_at_call 18; (with_reducible refine (hAt.out _ hTr.out).mono ?_); rintro e w1 ⟨rfl, hb1⟩; have hw1 := Hid.intro (chain2 hB.out hb1); have hT1 := Hid.intro (hTr.out.below hb1 hTr.out.size); clear hb1; have k1 := op_new1 w1 NM BY SH; obtain ⟨z0, z1, z2, z3, z4, zf⟩ := (hz0.out.below (chain2 hw1.out (below_alloc w1 (.cells #[.string (str NM), .int .u8 BY, .int .i64 SH] 51))) hz0.out.lt).cells; have hwl := Hid.intro (chain2 hw1.out (below_alloc w1 (.cells #[.string (str NM), .int .u8 BY, .int .i64 SH] 51))))
                | (go_at_call 50; (with_reducible refine (spansOp_any _ _ (hT1.out.alloc _)).mono ?_); rintro e w2 ⟨rfl, hb2⟩; rw [hSp.out]; have hw2 := Hid.intro (chain2 (chain2 hw1.out (below_alloc w1 _)) hb2); have k1 := (hb2.cell (p := ⟨w1.heap.size, 1, none⟩) (by simp)).trans (op_new1 w1 NM BY SH); obtain ⟨z0, z1, z2, z3, z4, zf⟩ := (hz0.out.below hw2.out hz0.out.lt).cells; replace hwl := hw2; have hT2 := Hid.intro ((hT1.out.alloc _).below hb2 (hT1.out.alloc _).size); replace hb2 := Hid.intro hb2)
                | (go_at_call 50; (with_reducible refine (spansOp_any _ _ hT2.out).mono ?_); rintro e w3 ⟨rfl, hb3⟩; rw [hSp.out]; have hw3 := Hid.intro (chain2 hw2.out hb3); have hb23 := Hid.intro (chain2 hb2.out hb3); have k1 := (hb23.out.cell (p := ⟨w1.heap.size, 1, none⟩) (by simp)).trans (op_new1 w1 NM BY SH); obtain ⟨z0, z1, z2, z3, z4, zf⟩ := (hz0.out.below hw3.out hz0.out.lt).cells; replace hwl := hw3; clear hb3))
              go_roundw
              case rel => exact ⟨i + 1, by omega, by go_num, hn, hwl⟩
              case measure => simp [intOf]; omega
            · have ew : (BY + 2) % 256 = BY + 2 := by omega
              go_wp2_with (first
                | (go_at_call 18; (with_reducible refine (hAt.out _ hTr.out).mono ?_); rintro e w1 ⟨rfl, hb1⟩; have hw1 := Hid.intro (chain2 hB.out hb1); have hT1 := Hid.intro (hTr.out.below hb1 hTr.out.size); clear hb1; have k1 := op_new1 w1 NM BY SH; obtain ⟨z0, z1, z2, z3, z4, zf⟩ := (hz0.out.below (chain2 hw1.out (below_alloc w1 (.cells #[.string (str NM), .int .u8 BY, .int .i64 SH] 51))) hz0.out.lt).cells; have hwl := Hid.intro (chain2 hw1.out (below_alloc w1 (.cells #[.string (str NM), .int .u8 BY, .int .i64 SH] 51))))
                | (go_at_call 50; (with_reducible refine (spansOp_any _ _ (hT1.out.alloc _)).mono ?_); rintro e w2 ⟨rfl, hb2⟩; rw [hSp.out]; have hw2 := Hid.intro (chain2 (chain2 hw1.out (below_alloc w1 _)) hb2); have k1 := (hb2.cell (p := ⟨w1.heap.size, 1, none⟩) (by simp)).trans (op_new1 w1 NM BY SH); obtain ⟨z0, z1, z2, z3, z4, zf⟩ := (hz0.out.below hw2.out hz0.out.lt).cells; replace hwl := hw2; have hT2 := Hid.intro ((hT1.out.alloc _).below hb2 (hT1.out.alloc _).size); replace hb2 := Hid.intro hb2)
                | (go_at_call 50; (with_reducible refine (spansOp_any _ _ hT2.out).mono ?_); rintro e w3 ⟨rfl, hb3⟩; rw [hSp.out]; have hw3 := Hid.intro (chain2 hw2.out hb3); have hb23 := Hid.intro (chain2 hb2.out hb3); have k1 := (hb23.out.cell (p := ⟨w1.heap.size, 1, none⟩) (by simp)).trans (op_new1 w1 NM BY SH); obtain ⟨z0, z1, z2, z3, z4, zf⟩ := (hz0.out.below hw3.out hz0.out.lt).cells; replace hwl := hw3; clear hb3))
              go_roundw
              case rel => exact ⟨i + 1, by omega, by go_num, hn, hwl⟩
              case measure => simp [intOf]; omega
          · 
            go_wp2_with (first
              | (go_at_call 18; (with_reducible refine (hAt.out _ hTr.out).mono ?_); rintro e w1 ⟨rfl, hb1⟩; have hw1 := Hid.intro (chain2 hB.out hb1); have hT1 := Hid.intro (hTr.out.below hb1 hTr.out.size); clear hb1; have k1 := op_new1 w1 NM BY SH; obtain ⟨z0, z1, z2, z3, z4, zf⟩ := (hz0.out.below (chain2 hw1.out (below_alloc w1 (.cells #[.string (str NM), .int .u8 BY, .int .i64 SH] 51))) hz0.out.lt).cells; have hwl := Hid.intro (chain2 hw1.out (below_alloc w1 (.cells #[.string (str NM), .int .u8 BY, .int .i64 SH] 51))))
              | (go_at_call 50; (with_reducible refine (spansOp_any _ _ (hT1.out.alloc _)).mono ?_); rintro e w2 ⟨rfl, hb2⟩; rw [hSp.out]; have hw2 := Hid.intro (chain2 (chain2 hw1.out (below_alloc w1 _)) hb2); have k1 := (hb2.cell (p := ⟨w1.heap.size, 1, none⟩) (by simp)).trans (op_new1 w1 NM BY SH); obtain ⟨z0, z1, z2, z3, z4, zf⟩ := (hz0.out.below hw2.out hz0.out.lt).cells; replace hwl := hw2; have hT2 := Hid.intro ((hT1.out.alloc _).below hb2 (hT1.out.alloc _).size); replace hb2 := Hid.intro hb2)
              | (go_at_call 50; (with_reducible refine (spansOp_any _ _ hT2.out).mono ?_); rintro e w3 ⟨rfl, hb3⟩; rw [hSp.out]; have hw3 := Hid.intro (chain2 hw2.out hb3); have hb23 := Hid.intro (chain2 hb2.out hb3); have k1 := (hb23.out.cell (p := ⟨w1.heap.size, 1, none⟩) (by simp)).trans (op_new1 w1 NM BY SH); obtain ⟨z0, z1, z2, z3, z4, zf⟩ := (hz0.out.below hw3.out hz0.out.lt).cells; replace hwl := hw3; clear hb3))
            go_roundw
            case rel => exact ⟨i + 1, by omega, by go_num, hn, hwl⟩
            case measure => simp [intOf]; omega
      | true =>
        rw [hsp] at hSp
        have hhit' := hhit.out
        have hfrm' := hfrm.out
        rw [hsp] at hhit' hfrm'
        simp only [if_true] at hhit' hfrm'
        by_cases hr : BY ≤ c ∧ c ≤ BY + 2
        · have hv := Hid.intro (hval.out (by rw [hhit', Bool.and_eq_true]; exact ⟨decide_eq_true hr.1, decide_eq_true hr.2⟩))
          rw [hfrm'] at hv
          obtain ⟨h3, h4⟩ := hr
          have ew : (BY + 2) % 256 = BY + 2 := by omega
          have e3 : (c - BY) % 256 = c - BY := by omega
          have h5 : 0 ≤ c - BY ∧ c - BY ≤ 2 := by omega
          clear hI hhit hfrm hhit' hfrm' hval hnext hsp
          by_cases e0 : c = BY
          · subst e0
            have e6 : (c - c) = 0 := by omega
            rw [show (c - c).toNat = 0 by omega] at hv
            go_wp2_with (first
              | (go_at_call 18; (with_reducible refine (hAt.out _ hTr.out).mono ?_); rintro e w1 ⟨rfl, hb1⟩; have hw1 := Hid.intro (chain2 hB.out hb1); have hT1 := Hid.intro (hTr.out.below hb1 hTr.out.size); clear hb1; have k1 := op_new1 w1 NM c SH; obtain ⟨z0, z1, z2, z3, z4, zf⟩ := (hz0.out.below (chain2 hw1.out (below_alloc w1 (.cells #[.string (str NM), .int .u8 c, .int .i64 SH] 51))) hz0.out.lt).cells; have hwl := Hid.intro (chain2 hw1.out (below_alloc w1 (.cells #[.string (str NM), .int .u8 c, .int .i64 SH] 51))))
              | (go_at_call 50; (with_reducible refine (spansOp_any _ _ (hT1.out.alloc _)).mono ?_); rintro e w2 ⟨rfl, hb2⟩; rw [hSp.out]; have hw2 := Hid.intro (chain2 (chain2 hw1.out (below_alloc w1 _)) hb2); have k1 := (hb2.cell (p := ⟨w1.heap.size, 1, none⟩) (by simp)).trans (op_new1 w1 NM c SH); obtain ⟨z0, z1, z2, z3, z4, zf⟩ := (hz0.out.below hw2.out hz0.out.lt).cells; replace hwl := hw2; have hT2 := Hid.intro ((hT1.out.alloc _).below hb2 (hT1.out.alloc _).size); replace hb2 := Hid.intro hb2)
              | (go_at_call 50; (with_reducible refine (spansOp_any _ _ hT2.out).mono ?_); rintro e w3 ⟨rfl, hb3⟩; rw [hSp.out]; have hw3 := Hid.intro (chain2 hw2.out hb3); have hb23 := Hid.intro (chain2 hb2.out hb3); have k1 := (hb23.out.cell (p := ⟨w1.heap.size, 1, none⟩) (by simp)).trans (op_new1 w1 NM c SH); obtain ⟨z0, z1, z2, z3, z4, zf⟩ := (hz0.out.below hw3.out hz0.out.lt).cells; replace hwl := hw3; clear hb3))
            have hset := (hz0.out.below hwl.out hz0.out.lt).set ((i : Int) + 1) 0 0 0 1
            have hbw := below_setInst (hb0.out.trans (hwl.out.mono hb0.out.size)) (Nat.le_refl w.heap.size) ((i : Int) + 1) 0 0 0 1
            change bodyPost _ _ _ _ _ (setInst _ w.heap.size ((i : Int) + 1) 0 0 0 1)
            generalize setInst _ w.heap.size ((i : Int) + 1) 0 0 0 1 = WW at *
            obtain ⟨y0, y1, y2, y3, y4, _⟩ := hset
            refine bodyPost_ret (by simp [results, Tryd.results35, go_sem, y0, y1, y2, y3, y4]; try rfl) rfl ?_
            exact ⟨by rw [hv.out]; rfl, hbw⟩
          · have e1 : (c == BY) = false := by simpa using e0
            by_cases e2 : c = BY + 1
            · rw [show (c - BY).toNat = 1 by omega] at hv
              have e7 : c - BY = 1 := by omega
              clear e2
              go_wp2_with (first
                | (go_at_call 18; (with_reducible refine (hAt.out _ hTr.out).mono ?_); rintro e w1 ⟨rfl, hb1⟩; have hw1 := Hid.intro (chain2 hB.out hb1); have hT1 := Hid.intro (hTr.out.below hb1 hTr.out.size); clear hb1; have k1 := op_new1 w1 NM BY SH; obtain ⟨z0, z1, z2, z3, z4, zf⟩ := (hz0.out.below (chain2 hw1.out (below_alloc w1 (.cells #[.string (str NM), .int .u8 BY, .int .i64 SH] 51))) hz0.out.lt).cells; have hwl := Hid.intro (chain2 hw1.out (below_alloc w1 (.cells #[.string (str NM), .int .u8 BY, .int .i64 SH] 51))))
                | (go_at_call 50; (with_reducible refine (spansOp_any _ _ (hT1.out.alloc _)).mono ?_); rintro e w2 ⟨rfl, hb2⟩; rw [hSp.out]; have hw2 := Hid.intro (chain2 (chain2 hw1.out (below_alloc w1 _)) hb2); have k1 := (hb2.cell (p := ⟨w1.heap.size, 1, none⟩) (by simp)).trans (op_new1 w1 NM BY SH); obtain ⟨z0, z1, z2, z3, z4, zf⟩ := (hz0.out.below hw2.out hz0.out.lt).cells; replace hwl := hw2; have hT2 := Hid.intro ((hT1.out.alloc _).below hb2 (hT1.out.alloc _).size); replace hb2 := Hid.intro hb2)
                | (go_at_call 50; (with_reducible refine (spansOp_any _ _ hT2.out).mono ?_); rintro e w3 ⟨rfl, hb3⟩; rw [hSp.out]; have hw3 := Hid.intro (chain2 hw2.out hb3); have hb23 := Hid.intro (chain2 hb2.out hb3); have k1 := (hb23.out.cell (p := ⟨w1.heap.size, 1, none⟩) (by simp)).trans (op_new1 w1 NM BY SH); obtain ⟨z0, z1, z2, z3, z4, zf⟩ := (hz0.out.below hw3.out hz0.out.lt).cells; replace hwl := hw3; clear hb3))
              have hset := (hz0.out.below hwl.out hz0.out.lt).set ((i : Int) + 1) 0 0 0 2
              have hbw := below_setInst (hb0.out.trans (hwl.out.mono hb0.out.size)) (Nat.le_refl w.heap.size) ((i : Int) + 1) 0 0 0 2
              change bodyPost _ _ _ _ _ (setInst _ w.heap.size ((i : Int) + 1) 0 0 0 2)
              generalize setInst _ w.heap.size ((i : Int) + 1) 0 0 0 2 = WW at *
              obtain ⟨y0, y1, y2, y3, y4, _⟩ := hset
              refine bodyPost_ret (by simp [results, Tryd.results35, go_sem, y0, y1, y2, y3, y4]; try rfl) rfl ?_
              exact ⟨by rw [hv.out]; rfl, hbw⟩
            · rw [show (c - BY).toNat = 2 by omega] at hv
              have e7 : c - BY = 2 := by omega
              go_wp2_with (first
                | (go_at_call 18; (with_reducible refine (hAt.out _ hTr.out).mono ?_); rintro e w1 ⟨rfl, hb1⟩; have hw1 := Hid.intro (chain2 hB.out hb1); have hT1 := Hid.intro (hTr.out.below hb1 hTr.out.size); clear hb1; have k1 := op_new1 w1 NM BY SH; obtain ⟨z0, z1, z2, z3, z4, zf⟩ := (hz0.out.below (chain2 hw1.out (below_alloc w1 (.cells #[.string (str NM), .int .u8 BY, .int .i64 SH] 51))) hz0.out.lt).cells; have hwl := Hid.intro (chain2 hw1.out (below_alloc w1 (.cells #[.string (str NM), .int .u8 BY, .int .i64 SH] 51))))
                | (go_at_call 50; (with_reducible refine (spansOp_any _ _ (hT1.out.alloc _)).mono ?_); rintro e w2 ⟨rfl, hb2⟩; rw [hSp.out]; have hw2 := Hid.intro (chain2 (chain2 hw1.out (below_alloc w1 _)) hb2); have k1 := (hb2.cell (p := ⟨w1.heap.size, 1, none⟩) (by simp)).trans (op_new1 w1 NM BY SH); obtain ⟨z0, z1, z2, z3, z4, zf⟩ := (hz0.out.below hw2.out hz0.out.lt).cells; replace hwl := hw2; have hT2 := Hid.intro ((hT1.out.alloc _).below hb2 (hT1.out.alloc _).size); replace hb2 := Hid.intro hb2)
                | (go_at_call 50; (with_reducible refine (spansOp_any _ _ hT2.out).mono ?_); rintro e w3 ⟨rfl, hb3⟩; rw [hSp.out]; have hw3 := Hid.intro (chain2 hw2.out hb3); have hb23 := Hid.intro (chain2 hb2.out hb3); have k1 := (hb23.out.cell (p := ⟨w1.heap.size, 1, none⟩) (by simp)).trans (op_new1 w1 NM BY SH); obtain ⟨z0, z1, z2, z3, z4, zf⟩ := (hz0.out.below hw3.out hz0.out.lt).cells; replace hwl := hw3; clear hb3))
              have hset := (hz0.out.below hwl.out hz0.out.lt).set ((i : Int) + 1) 0 0 0 4
              have hbw := below_setInst (hb0.out.trans (hwl.out.mono hb0.out.size)) (Nat.le_refl w.heap.size) ((i : Int) + 1) 0 0 0 4
              change bodyPost _ _ _ _ _ (setInst _ w.heap.size ((i : Int) + 1) 0 0 0 4)
              generalize setInst _ w.heap.size ((i : Int) + 1) 0 0 0 4 = WW at *
              obtain ⟨y0, y1, y2, y3, y4, _⟩ := hset
              refine bodyPost_ret (by simp [results, Tryd.results35, go_sem, y0, y1, y2, y3, y4]; try rfl) rfl ?_
              exact ⟨by rw [hv.out]; rfl, hbw⟩
        · have hn := Hid.intro (hnext.out (by rw [hhit', Bool.and_eq_false_iff]; rcases Classical.not_and_iff_not_or_not.1 hr with h | h; exact .inl (decide_eq_false h); exact .inr (decide_eq_false h)))
          have ew : (BY + 2) % 256 = BY + 2 := by omega
          have e1 : (c == BY) = false := by simp; omega
          clear hI hhit hfrm hhit' hfrm' hval hnext hsp
          by_cases h3 : BY ≤ c
          · have h4 : ¬ (c ≤ BY + 2) := fun h => hr ⟨h3, h⟩
            clear hr
            go_wp2_with (first
              | (go_at_call 18; (with_reducible refine (hAt.out _ hTr.out).mono ?_); rintro e w1 ⟨rfl, hb1⟩; have hw1 := Hid.intro (chain2 hB.out hb1); have hT1 := Hid.intro (hTr.out.below hb1 hTr.out.size); clear hb1; have k1 := op_new1 w1 NM BY SH; obtain ⟨z0, z1, z2, z3, z4, zf⟩ := (hz0.out.below (chain2 hw1.out (below_alloc w1 (.cells #[.string (str NM), .int .u8 BY, .int .i64 SH] 51))) hz0.out.lt).cells; have hwl := Hid.intro (chain2 hw1.out (below_alloc w1 (.cells #[.string (str NM), .int .u8 BY, .int .i64 SH] 51))))
              | (go_at_call 50; (with_reducible refine (spansOp_any _ _ (hT1.out.alloc _)).mono ?_); rintro e w2 ⟨rfl, hb2⟩; rw [hSp.out]; have hw2 := Hid.intro (chain2 (chain2 hw1.out (below_alloc w1 _)) hb2); have k1 := (hb2.cell (p := ⟨w1.heap.size, 1, none⟩) (by simp)).trans (op_new1 w1 NM BY SH); obtain ⟨z0, z1, z2, z3, z4, zf⟩ := (hz0.out.below hw2.out hz0.out.lt).cells; replace hwl := hw2; have hT2 := Hid.intro ((hT1.out.alloc _).below hb2 (hT1.out.alloc _).size); replace hb2 := Hid.intro hb2)
              | (go_at_call 50; (with_reducible refine (spansOp_any _ _ hT2.out).mono ?_); rintro e w3 ⟨rfl, hb3⟩; rw [hSp.out]; have hw3 := Hid.intro (chain2 hw2.out hb3); have hb23 := Hid.intro (chain2 hb2.out hb3); have k1 := (hb23.out.cell (p := ⟨w1.heap.size, 1, none⟩) (by simp)).trans (op_new1 w1 NM BY SH); obtain ⟨z0, z1, z2, z3, z4, zf⟩ := (hz0.out.below hw3.out hz0.out.lt).cells; replace hwl := hw3; clear hb3))
            go_roundw
            case rel => exact ⟨i + 1, by omega, by go_num, hn, hwl⟩
            case measure => simp [intOf]; omega
          · clear hr
            go_wp2_with (first
              | (go_at_call 18; (with_reducible refine (hAt.out _ hTr.out).mono ?_); rintro e w1 ⟨rfl, hb1⟩; have hw1 := Hid.intro (chain2 hB.out hb1); have hT1 := Hid.intro (hTr.out.below hb1 hTr.out.size); clear hb1; have k1 := op_new1 w1 NM BY SH; obtain ⟨z0, z1, z2, z3, z4, zf⟩ := (hz0.out.below (chain2 hw1.out (below_alloc w1 (.cells #[.string (str NM), .int .u8 BY, .int .i64 SH] 51))) hz0.out.lt).cells; have hwl := Hid.intro (chain2 hw1.out (below_alloc w1 (.cells #[.string (str NM), .int .u8 BY, .int .i64 SH] 51))))
              | (go_at_call 50; (with_reducible refine (spansOp_any _ _ (hT1.out.alloc _)).mono ?_); rintro e w2 ⟨rfl, hb2⟩; rw [hSp.out]; have hw2 := Hid.intro (chain2 (chain2 hw1.out (below_alloc w1 _)) hb2); have k1 := (hb2.cell (p := ⟨w1.heap.size, 1, none⟩) (by simp)).trans (op_new1 w1 NM BY SH); obtain ⟨z0, z1, z2, z3, z4, zf⟩ := (hz0.out.below hw2.out hz0.out.lt).cells; replace hwl := hw2; have hT2 := Hid.intro ((hT1.out.alloc _).below hb2 (hT1.out.alloc _).size); replace hb2 := Hid.intro hb2)
              | (go_at_call 50; (with_reducible refine (spansOp_any _ _ hT2.out).mono ?_); rintro e w3 ⟨rfl, hb3⟩; rw [hSp.out]; have hw3 := Hid.intro (chain2 hw2.out hb3); have hb23 := Hid.intro (chain2 hb2.out hb3); have k1 := (hb23.out.cell (p := ⟨w1.heap.size, 1, none⟩) (by simp)).trans (op_new1 w1 NM BY SH); obtain ⟨z0, z1, z2, z3, z4, zf⟩ := (hz0.out.below hw3.out hz0.out.lt).cells; replace hwl := hw3; clear hb3))
            go_roundw
            case rel => exact ⟨i + 1, by omega, by go_num, hn, hwl⟩
            case measure => simp [intOf]; omega
    · obtain rfl : i = 43 := by omega
      have hv : Hid (V = .tuple #[instV 0 0 0 0 0, .bool false]) := by
        show V = _
        rw [hVH.out, begV, begI_none hI.out, if_neg (by omega)]
      have hAn := Hid.intro (fun W hW => atE_none W hW)
      clear hI
      go_wp2_with (go_at_call 18; (with_reducible refine (hAn.out _ hTr.out).mono ?_); rintro e w1 ⟨rfl, hb1⟩; have hwl := Hid.intro (chain2 (chain2 hB.out hb1) (below_alloc w1 (.cells #[.string (str []), .int .u8 0, .int .i64 0] 51))); clear hb1; obtain ⟨z0, z1, z2, z3, z4, zf⟩ := (hz0.out.below hwl.out hz0.out.lt).cells)
      have hset := (hz0.out.below hwl.out hz0.out.lt).set 0 0 0 0 0
      have hbw := below_setInst (hb0.out.trans (hwl.out.mono hb0.out.size)) (Nat.le_refl w.heap.size) 0 0 0 0 0
      change bodyPost _ _ _ _ _ (setInst _ w.heap.size 0 0 0 0 0)
      generalize setInst _ w.heap.size 0 0 0 0 0 = WW at *
      obtain ⟨y0, y1, y2, y3, y4, _⟩ := hset
      refine bodyPost_ret (by simp [results, Tryd.results35, go_sem, y0, y1, y2, y3, y4]; try rfl) rfl ?_
      exact ⟨by rw [hv.out], hbw⟩
end Go.Proofs.YthboapfbgdcdoaaDoor
