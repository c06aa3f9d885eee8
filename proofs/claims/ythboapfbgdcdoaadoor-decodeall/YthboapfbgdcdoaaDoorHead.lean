/- decode.head: the operation and the form that stand at a place, and how many bytes the instruction has. -/
import Derived.Test.YthboapfbgdcdoaaDoorBegun
namespace Go.Proofs.YthboapfbgdcdoaaDoor
open Go.ChangeShapes Go.WideShapes Go.ChangeAt Go.RowKit
set_option linter.unusedVariables false
set_option maxRecDepth 100000

/-- an instruction with registers and a number of 0: its length -/
theorem len_beg {c : Int} (h : begI c < 43) : lenN (opI c) 0 0 0 (frmI c) = sizI c := by
  obtain ⟨s, hs, hsn, h1, h14⟩ := shp_nat h
  have hh := begI_is h
  have hfc := frm_cases hh
  have hop : 1 ≤ opI c ∧ opI c ≤ 43 := by unfold opI; omega
  have hi : (opI c - 1).toNat = begI c := by unfold opI; omega
  have hS : shapeN (opI c) = (s : Int) := by rw [shapeN, if_pos hop, hi, hs]
  have hc : checkN (opI c) 0 0 0 (frmI c) = 0 := by
    rw [hs] at hfc
    unfold checkN
    rw [if_neg (by simpa using hop), hS]
    have e1 : regB 0 0 0 (s : Int).toNat = true := by
      rw [Int.toNat_natCast]
      rcases lim_cases s h14 with rfl | rfl | rfl | rfl | rfl | rfl | rfl | rfl | rfl | rfl | rfl | rfl | rfl | rfl <;> decide +kernel
    have e2 : numB 0 (frmI c) (s : Int).toNat = true := by
      rw [Int.toNat_natCast]
      unfold frmI
      rcases hfc with ⟨e, f0, _⟩ | ⟨e, hf⟩
      · rw [f0]
        rcases lim_cases s h14 with rfl | rfl | rfl | rfl | rfl | rfl | rfl | rfl | rfl | rfl | rfl | rfl | rfl | rfl
        · omega
        all_goals first | (cases e; done) | decide +kernel
      · rw [numB, e, if_pos rfl]
        rcases hf with ⟨f0, _⟩ | ⟨f0, _⟩ | ⟨f0, _⟩ <;> rw [f0] <;> decide +kernel
    rw [if_neg (by rw [e1]; decide), if_neg (by rw [e2]; decide)]
  rw [lenN, if_pos hc, sizI, shpI, hsn, hS, Int.toNat_natCast]

theorem siz_range {c : Int} (h : begI c < 43) : 1 ≤ sizI c ∧ sizI c ≤ 10 := by
  obtain ⟨s, hs, hsn, h1, h14⟩ := shp_nat h
  have := frm_range (begI_is h)
  have h3 : 1 ≤ sizeAt s ∧ sizeAt s ≤ 6 := by
    rcases lim_cases s h14 with rfl | rfl | rfl | rfl | rfl | rfl | rfl | rfl | rfl | rfl | rfl | rfl | rfl | rfl
    · omega
    all_goals decide +kernel
  unfold sizI shpI frmI
  rw [hsn]
  omega

/-- what head answers -/
def hdV (zs : List Int) (at' : Int) : Value := if hdE zs at' = 0 then .tuple #[instV (opI (zs.getD at'.toNat 0)) 0 0 0 (frmI (zs.getD at'.toNat 0)), .int .i64 (sizI (zs.getD at'.toNat 0)), .int .i64 0] else .tuple #[instV 0 0 0 0 0, .int .i64 0, .int .i64 (hdE zs at')]

theorem begV_some {c : Int} (h : begI c < 43) : begV c = .tuple #[instV (opI c) 0 0 0 (frmI c), .bool true] := by rw [begV, if_pos h]
theorem begV_none {c : Int} (h : begI c = 43) : begV c = .tuple #[instV 0 0 0 0 0, .bool false] := by rw [begV, if_neg (by omega)]

set_option maxHeartbeats 4000000 in
theorem head_any (a : Option Addr) (cap m : Nat) (zs : List Int) (at' : Int) (w : World) (hm : m = zs.length) (hT : Tab w) (hl : Lies w a zs) (hml : zs.length ≤ 140737488355328) (ha : -9223372036854775808 ≤ at' ∧ at' ≤ 9223372036854775807) :
    Calls Tryd.prog 17 #[.slice a m cap, .int .i64 at'] w fun e w' => e = .returned (hdV zs at') ∧ Below w.heap.size w w' := by
  have hb0 := Hid.intro (below_alloc w (.cells #[.int .i64 0, .int .i64 0, .int .i64 0, .int .i32 0, .int .i64 0] 26))
  have hz0 := Hid.intro (zblk_new w)
  have hT0 := Hid.intro (hT.alloc (.cells #[.int .i64 0, .int .i64 0, .int .i64 0, .int .i32 0, .int .i64 0] 26))
  obtain ⟨z0, z1, z2, z3, z4, zf⟩ := hz0.out.cells
  obtain ⟨V, hV⟩ : ∃ V, V = hdV zs at' := ⟨_, rfl⟩
  rw [← hV]
  unfold hdV at hV
  obtain ⟨E, hE⟩ : ∃ E, E = hdE zs at' := ⟨_, rfl⟩
  rw [← hE] at hV
  unfold hdE at hE
  rw [← hm] at hE hml
  by_cases h1 : at' < 0
  · rw [if_pos (.inl h1)] at hE
    subst hE
    rw [if_neg (by omega)] at hV
    have hVH := Hid.intro hV
    clear hV
    go_enter Tryd.func17, Tryd.ntmps17
    go_wp2
    refine bodyPost_ret (by simp [results, Tryd.results17, go_sem, z0, z1, z2, z3, z4]; try rfl) rfl ?_
    exact ⟨by rw [hVH.out], hb0.out⟩
  · by_cases h2 : (m : Int) < at'
    · rw [if_pos (.inr h2)] at hE
      subst hE
      rw [if_neg (by omega)] at hV
      have hVH := Hid.intro hV
      clear hV
      go_enter Tryd.func17, Tryd.ntmps17
      go_wp2
      refine bodyPost_ret (by simp [results, Tryd.results17, go_sem, z0, z1, z2, z3, z4]; try rfl) rfl ?_
      exact ⟨by rw [hVH.out], hb0.out⟩
    · rw [if_neg (by omega)] at hE
      by_cases h3 : at' = m
      · rw [if_pos h3] at hE
        subst hE
        rw [if_neg (by omega)] at hV
        have hVH := Hid.intro hV
        have hmH := Hid.intro hm
        clear hV hm
        subst h3
        go_enter Tryd.func17, Tryd.ntmps17
        go_wp2
        refine bodyPost_ret (by simp [results, Tryd.results17, go_sem, z0, z1, z2, z3, z4]; try rfl) rfl ?_
        exact ⟨by rw [hVH.out], hb0.out⟩
      · rw [if_neg h3] at hE
        obtain ⟨k, rfl⟩ : ∃ k : Nat, at' = k := ⟨at'.toNat, by omega⟩
        obtain ⟨hz, hl2⟩ := hl
        rcases hl2 with rfl | ⟨b, off, rfl, hc⟩
        · simp at hm; omega
        have q0 := hc k (by omega)
        have qb : b < w.heap.size := World.block_lt_of_cell? w _ q0
        have hcb := areBytes_getD zs hz k
        rw [Int.toNat_natCast] at hE hV
        have hcb' : 0 ≤ zs.getD k 0 ∧ zs.getD k 0 ≤ 255 := by rw [List.getD_eq_getElem?_getD]; exact hcb
        clear hcb hc
        generalize zs.getD k 0 = c at *
        have q1 := fun o => ((below_alloc w o).cell (p := ⟨b, off + k, none⟩) qb).trans q0
        have e3 : ((k : Int) == (m : Int)) = false := by simpa using h3
        have h4 : ¬ ((k : Int) > (m : Int)) := by omega
        have h5 : (k : Int) < (m : Int) := by omega
        have h6 : k < m := by omega
        have e9 : ¬ ((k : Int) < 0) := by omega
        have hmH := Hid.intro hm
        have hTH := Hid.intro hT
        clear hm hT hz h3
        by_cases h7 : begI c = 43
        · rw [if_pos h7] at hE
          subst hE
          rw [if_neg (by omega)] at hV
          have hVH := Hid.intro hV
          have hBe := Hid.intro (fun W hW => begV_none h7 ▸ begun_any c hcb'.1 hcb'.2 W hW)
          clear hV h7
          go_enter Tryd.func17, Tryd.ntmps17
          go_wp2_with (go_at_call 35; (with_reducible refine (hBe.out _ hT0.out).mono ?_); rintro e w1 ⟨rfl, hb1⟩; have hwl := Hid.intro (chain2 hb1 (below_alloc w1 (.cells #[.int .i64 0, .int .i64 0, .int .i64 0, .int .i32 0, .int .i64 0] 26))); clear hb1; obtain ⟨z0, z1, z2, z3, z4, zf⟩ := (hz0.out.below hwl.out hz0.out.lt).cells)
          have hset := (hz0.out.below hwl.out hz0.out.lt).set 0 0 0 0 0
          have hbw := below_setInst (hb0.out.trans (hwl.out.mono hb0.out.size)) (Nat.le_refl w.heap.size) 0 0 0 0 0
          change bodyPost _ _ _ _ _ (setInst _ w.heap.size 0 0 0 0 0)
          generalize setInst _ w.heap.size 0 0 0 0 0 = WW at *
          obtain ⟨y0, y1, y2, y3, y4, _⟩ := hset
          refine bodyPost_ret (by simp [results, Tryd.results17, go_sem, y0, y1, y2, y3, y4]; try rfl) rfl ?_
          exact ⟨by rw [hVH.out], hbw⟩
        · have h8 : begI c < 43 := by have := begI_le c; omega
          rw [if_neg h7] at hE
          have hBe := Hid.intro (fun W hW => begV_some h8 ▸ begun_any c hcb'.1 hcb'.2 W hW)
          have hLe := Hid.intro (fun W hW => len_beg h8 ▸ len_any (opI c) 0 0 0 (frmI c) W hW (by omega))
          have hsr := siz_range h8
          clear h7 h8
          generalize opI c = OP at *
          generalize frmI c = FM at *
          generalize sizI c = SZ at *
          have arm := True
          by_cases h9 : (m : Int) - k < SZ
          · rw [if_pos h9] at hE
            subst hE
            rw [if_neg (by omega)] at hV
            have hVH := Hid.intro hV
            clear hV
            go_enter Tryd.func17, Tryd.ntmps17
            go_wp2_with (first
              | (go_at_call 35; (with_reducible refine (hBe.out _ hT0.out).mono ?_); rintro e w1 ⟨rfl, hb1⟩; have hT1 := Hid.intro (hT0.out.below hb1 hT0.out.size); have hw1 := Hid.intro hb1; clear hb1; obtain ⟨i0, i1, i2, i3, i4, _⟩ := inst_new w1 OP 0 0 0 FM)
              | (go_at_call 36; (with_reducible refine (hLe.out _ (hT1.out.alloc _)).mono ?_); rintro e w2 ⟨rfl, hb2⟩; have hwl := Hid.intro (chain2 (chain2 hw1.out (below_alloc w1 _)) hb2); clear hb2; obtain ⟨z0, z1, z2, z3, z4, zf⟩ := (hz0.out.below hwl.out hz0.out.lt).cells))
            have hset := (hz0.out.below hwl.out hz0.out.lt).set 0 0 0 0 0
            have hbw := below_setInst (hb0.out.trans (hwl.out.mono hb0.out.size)) (Nat.le_refl w.heap.size) 0 0 0 0 0
            change bodyPost _ _ _ _ _ (setInst _ w.heap.size 0 0 0 0 0)
            generalize setInst _ w.heap.size 0 0 0 0 0 = WW at *
            obtain ⟨y0, y1, y2, y3, y4, _⟩ := hset
            refine bodyPost_ret (by simp [results, Tryd.results17, go_sem, y0, y1, y2, y3, y4]; try rfl) rfl ?_
            exact ⟨by rw [hVH.out], hbw⟩
          · rw [if_neg h9] at hE
            subst hE
            rw [if_pos rfl] at hV
            have hVH := Hid.intro hV
            clear hV
            go_enter Tryd.func17, Tryd.ntmps17
            go_wp2_with (first
              | (go_at_call 35; (with_reducible refine (hBe.out _ hT0.out).mono ?_); rintro e w1 ⟨rfl, hb1⟩; have hT1 := Hid.intro (hT0.out.below hb1 hT0.out.size); have hw1 := Hid.intro hb1; clear hb1; obtain ⟨i0, i1, i2, i3, i4, _⟩ := inst_new w1 OP 0 0 0 FM)
              | (go_at_call 36; (with_reducible refine (hLe.out _ (hT1.out.alloc _)).mono ?_); rintro e w2 ⟨rfl, hb2⟩; have hwl := Hid.intro (chain2 (chain2 hw1.out (below_alloc w1 _)) hb2); obtain ⟨j0, j1, j2, j3, j4, _⟩ := (inst_new w1 OP 0 0 0 FM).below hb2 (inst_new w1 OP 0 0 0 FM).lt; clear hb2; obtain ⟨z0, z1, z2, z3, z4, zf⟩ := (hz0.out.below hwl.out hz0.out.lt).cells))
            have hset := (hz0.out.below hwl.out hz0.out.lt).set OP 0 0 0 FM
            have hbw := below_setInst (hb0.out.trans (hwl.out.mono hb0.out.size)) (Nat.le_refl w.heap.size) OP 0 0 0 FM
            change bodyPost _ _ _ _ _ (setInst _ w.heap.size OP 0 0 0 FM)
            generalize setInst _ w.heap.size OP 0 0 0 FM = WW at *
            obtain ⟨y0, y1, y2, y3, y4, _⟩ := hset
            refine bodyPost_ret (by simp [results, Tryd.results17, go_sem, y0, y1, y2, y3, y4]; try rfl) rfl ?_
            exact ⟨by rw [hVH.out], hbw⟩
end Go.Proofs.YthboapfbgdcdoaaDoor
