/- The document's Decode: what it answers of any bytes at any place. -/
import Derived.Test.YthboapfbgdcdoaaDoorRDec2
import Derived.Test.YthboapfbgdcdoaaDoorRDec3
namespace Go.Proofs.YthboapfbgdcdoaaDoor
open Go.ChangeShapes Go.WideShapes Go.ChangeAt Go.RowKit
set_option linter.unusedVariables false
set_option maxRecDepth 100000

theorem findV_some {c : Int} (h : begI c < 43) : findV c = .tuple #[.int .i64 (opI c), .int .i64 (frmI c)] := by rw [findV, if_pos h]
theorem findV_none {c : Int} (h : begI c = 43) : findV c = .tuple #[.int .i64 0, .int .i64 0] := by rw [findV, if_neg (by omega)]

theorem size_beg {c : Int} (h : begI c < 43) (W : World) : Calls Tryd.prog 26 #[.int .i64 (opI c), .int .i64 (frmI c)] W fun e w' => e = .returned (.int .i64 (sizI c)) ∧ Below W.heap.size W w' := by
  obtain ⟨s, hs, hsn, h1, h14⟩ := shp_nat h
  have hfc := frm_cases (begI_is h)
  have hop : 1 ≤ opI c ∧ opI c ≤ 43 := by unfold opI; omega
  have hi : (opI c - 1).toNat = begI c := by unfold opI; omega
  have hS : shapeN (opI c) = (s : Int) := by rw [shapeN, if_pos hop, hi, hs]
  have := size_any (opI c) (frmI c) s h14 h1 hS W (frm_range (begI_is h)) (by
    rw [hs] at hfc
    intro e
    rcases hfc with ⟨_, e0, _⟩ | ⟨e1, _⟩
    · exact e0
    · rw [e] at e1; cases e1)
  rw [sizI, shpI, hsn]
  exact this
theorem shape_beg {c : Int} (h : begI c < 43) (W : World) : Calls Tryd.prog 27 #[.int .i64 (opI c)] W fun e w' => e = .returned (.int .i64 (shpI c : Int)) ∧ Below W.heap.size W w' := by
  obtain ⟨s, hs, hsn, h1, h14⟩ := shp_nat h
  have hop : 1 ≤ opI c ∧ opI c ≤ 43 := by unfold opI; omega
  have hi : (opI c - 1).toNat = begI c := by unfold opI; omega
  have hS : shapeN (opI c) = (s : Int) := by rw [shapeN, if_pos hop, hi, hs]
  have := shape_any (opI c) W
  rw [hS] at this
  rw [shpI, hsn]
  exact this

set_option maxHeartbeats 4000000 in
theorem refDecode_bad (a : Option Addr) (cap m : Nat) (zs : List Int) (at' : Int) (w : World) (hm : m = zs.length) (hT : Tab w) (hl : Lies w a zs) (hml : m ≤ 140737488355328) (ha : -9223372036854775808 ≤ at' ∧ at' ≤ 9223372036854775807) (hE0 : hdE zs at' ≠ 0) :
    Calls Tryd.prog 12 #[.slice a m cap, .int .i64 at'] w fun e w' => e = .returned (decV zs at') ∧ Below w.heap.size w w' := by
  have hb0 := Hid.intro (below_alloc w (.cells #[.int .i64 0, .int .i64 0, .int .i64 0, .int .i32 0, .int .i64 0] 26))
  have hz0 := Hid.intro (zblk_new w)
  obtain ⟨z0, z1, z2, z3, z4, zf⟩ := hz0.out.cells
  obtain ⟨V, hV⟩ : ∃ V, V = decV zs at' := ⟨_, rfl⟩
  rw [← hV]
  rw [decV_bad hE0] at hV
  obtain ⟨E, hE⟩ : ∃ E, E = hdE zs at' := ⟨_, rfl⟩
  rw [← hE] at hV hE0
  unfold hdE at hE
  rw [← hm] at hE
  by_cases h1 : at' < 0
  · rw [if_pos (.inl h1)] at hE
    subst hE
    have hVH := Hid.intro hV
    clear hV
    go_enter Tryd.func12, Tryd.ntmps12
    go_wp2
    refine bodyPost_ret (by simp [results, Tryd.results12, go_sem, z0, z1, z2, z3, z4]; try rfl) rfl ?_
    exact ⟨by rw [hVH.out], hb0.out⟩
  · by_cases h2 : (m : Int) < at'
    · rw [if_pos (.inr h2)] at hE
      subst hE
      have hVH := Hid.intro hV
      clear hV
      go_enter Tryd.func12, Tryd.ntmps12
      go_wp2
      refine bodyPost_ret (by simp [results, Tryd.results12, go_sem, z0, z1, z2, z3, z4]; try rfl) rfl ?_
      exact ⟨by rw [hVH.out], hb0.out⟩
    · rw [if_neg (by omega)] at hE
      by_cases h3 : at' = m
      · rw [if_pos h3] at hE
        subst hE
        have hVH := Hid.intro hV
        have hmH := Hid.intro hm
        clear hV hm
        subst h3
        go_enter Tryd.func12, Tryd.ntmps12
        go_wp2
        refine bodyPost_ret (by simp [results, Tryd.results12, go_sem, z0, z1, z2, z3, z4]; try rfl) rfl ?_
        exact ⟨by rw [hVH.out], hb0.out⟩
      · rw [if_neg h3] at hE
        obtain ⟨k, rfl⟩ : ∃ k : Nat, at' = k := ⟨at'.toNat, by omega⟩
        obtain ⟨hz, hl2⟩ := hl
        rcases hl2 with rfl | ⟨b, off, rfl, hc⟩
        · simp at hm; omega
        have q0 := hc k (by omega)
        have qb : b < w.heap.size := World.block_lt_of_cell? w _ q0
        have hcb := areBytes_getD zs hz k
        rw [Int.toNat_natCast] at hE
        have hcb' : 0 ≤ zs.getD k 0 ∧ zs.getD k 0 ≤ 255 := by rw [List.getD_eq_getElem?_getD]; exact hcb
        clear hcb hc
        generalize zs.getD k 0 = c at *
        have q1 := fun o => ((below_alloc w o).cell (p := ⟨b, off + k, none⟩) qb).trans q0
        have e3 : ((k : Int) == (m : Int)) = false := by simpa using h3
        have h4 : ¬ ((k : Int) > (m : Int)) := by omega
        have h5 : (k : Int) < (m : Int) := by omega
        have h6 : k < m := by omega
        have e9 : ¬ ((k : Int) < 0) := by omega
        clear hm hT hz h3
        by_cases h7 : begI c = 43
        · rw [if_pos h7] at hE
          subst hE
          have hVH := Hid.intro hV
          have hFi := Hid.intro (fun W => findV_none h7 ▸ find7_any c hcb'.1 hcb'.2 W)
          clear hV h7
          go_enter Tryd.func12, Tryd.ntmps12
          go_wp2_with (go_at_call 25; (with_reducible refine (hFi.out _).mono ?_); rintro e w1 ⟨rfl, hb1⟩; have hwl := Hid.intro hb1; clear hb1; obtain ⟨z0, z1, z2, z3, z4, zf⟩ := (hz0.out.below hwl.out hz0.out.lt).cells)
          have hset := (hz0.out.below hwl.out hz0.out.lt).set 0 0 0 0 0
          have hbw4 := below_setInst (hb0.out.trans (hwl.out.mono hb0.out.size)) (Nat.le_refl w.heap.size) 0 0 0 0 0
          change bodyPost _ _ _ _ _ (setInst _ w.heap.size 0 0 0 0 0)
          generalize setInst _ w.heap.size 0 0 0 0 0 = WW at *
          obtain ⟨y0, y1, y2, y3, y4, _⟩ := hset
          refine bodyPost_ret (by simp [results, Tryd.results12, go_sem, y0, y1, y2, y3, y4]; try rfl) rfl ?_
          exact ⟨by rw [hVH.out], hbw4⟩
        · have h8 : begI c < 43 := by have := begI_le c; omega
          rw [if_neg h7] at hE
          have hFi := Hid.intro (fun W => findV_some h8 ▸ find7_any c hcb'.1 hcb'.2 W)
          have hSi := Hid.intro (fun W => size_beg h8 W)
          have hsr := siz_range h8
          have hop : (opI c == 0) = false := by simp [opI]; omega
          clear h7 h8
          generalize opI c = OP at *
          generalize frmI c = FM at *
          generalize sizI c = SZ at *
          by_cases h9 : (m : Int) - k < SZ
          · rw [if_pos h9] at hE
            subst hE
            have hVH := Hid.intro hV
            clear hV
            go_enter Tryd.func12, Tryd.ntmps12
            go_wp2_with (first
              | (go_at_call 25; (with_reducible refine (hFi.out _).mono ?_); rintro e w1 ⟨rfl, hb1⟩; replace hb1 := Hid.intro hb1)
              | (go_at_call 26; (with_reducible refine (hSi.out _).mono ?_); rintro e w2 ⟨rfl, hb2⟩; have hwl := Hid.intro (chain2 hb1.out hb2); clear hb2; obtain ⟨z0, z1, z2, z3, z4, zf⟩ := (hz0.out.below hwl.out hz0.out.lt).cells))
            have hset := (hz0.out.below hwl.out hz0.out.lt).set 0 0 0 0 0
            have hbw4 := below_setInst (hb0.out.trans (hwl.out.mono hb0.out.size)) (Nat.le_refl w.heap.size) 0 0 0 0 0
            change bodyPost _ _ _ _ _ (setInst _ w.heap.size 0 0 0 0 0)
            generalize setInst _ w.heap.size 0 0 0 0 0 = WW at *
            obtain ⟨y0, y1, y2, y3, y4, _⟩ := hset
            refine bodyPost_ret (by simp [results, Tryd.results12, go_sem, y0, y1, y2, y3, y4]; try rfl) rfl ?_
            exact ⟨by rw [hVH.out], hbw4⟩
          · rw [if_neg h9] at hE
            exact absurd hE hE0

theorem refDecode_any (a : Option Addr) (cap m : Nat) (zs : List Int) (at' : Int) (w : World) (hm : m = zs.length) (hT : Tab w) (hl : Lies w a zs) (hcap : m ≤ cap) (hml : m ≤ 140737488355328) (ha : -9223372036854775808 ≤ at' ∧ at' ≤ 9223372036854775807) :
    Calls Tryd.prog 12 #[.slice a m cap, .int .i64 at'] w fun e w' => e = .returned (decV zs at') ∧ Below w.heap.size w w' := by
  by_cases hE : hdE zs at' = 0
  · obtain ⟨k, rfl, hkl, hb43, hfit⟩ := hdE_ok hE
    obtain ⟨c, hc⟩ : ∃ c, c = zs.getD k 0 := ⟨_, rfl⟩
    have hV := decV_end hc hE
    rw [← hc] at hb43 hfit
    have hcb' : 0 ≤ c ∧ c ≤ 255 := by rw [hc, List.getD_eq_getElem?_getD]; exact areBytes_getD zs hl.1 k
    have hFi := fun W => findV_some hb43 ▸ find7_any c hcb'.1 hcb'.2 W
    have hSi := fun W => size_beg hb43 W
    have hSh := fun W => shape_beg hb43 W
    have hop : ¬ (opI c = 0) := by unfold opI; omega
    obtain ⟨s, hs, hsn, h1, h14⟩ := shp_nat hb43
    have hfc := frm_cases (begI_is hb43)
    have hsh : shpI c = s := hsn
    rw [hsh] at hSh
    rw [hs] at hfc
    rw [← hm] at hfit
    clear hsn hs hE hb43
    obtain ⟨b, off, rfl, hbw⟩ : ∃ b off, a = some ⟨b, off, none⟩ ∧ b < w.heap.size := by
      rcases hl.2 with h | ⟨b, off, ha, hcc⟩
      · rw [h] at hkl; simp at hkl
      · exact ⟨b, off, ha, World.block_lt_of_cell? w _ (hcc 0 (by omega))⟩
    rcases hfc with ⟨hsp, hf, -⟩ | ⟨hsp, hf⟩
    · change frmI c = 0 at hf
      rcases lim_cases s h14 with rfl | rfl | rfl | rfl | rfl | rfl | rfl | rfl | rfl | rfl | rfl | rfl | rfl | rfl
      · omega
      · have eS : sizI c = 1 := by rw [sizI, hsh, sizeAt1, hf]; rfl
        rw [hf] at hFi
        rw [hf, eS] at hSi
        rw [hsh, hf, eS] at hV
        exact rdec_1_0 b off cap m k zs (opI c) c w _ hm hT hl hbw hcap hml (by rw [eS] at hfit; omega) hc hop hFi hSi hSh hV
      · have eS : sizI c = 2 := by rw [sizI, hsh, sizeAt2, hf]; rfl
        rw [hf] at hFi
        rw [hf, eS] at hSi
        rw [hsh, hf, eS] at hV
        exact rdec_2_0 b off cap m k zs (opI c) c w _ hm hT hl hbw hcap hml (by rw [eS] at hfit; omega) hc hop hFi hSi hSh hV
      · have eS : sizI c = 2 := by rw [sizI, hsh, sizeAt3, hf]; rfl
        rw [hf] at hFi
        rw [hf, eS] at hSi
        rw [hsh, hf, eS] at hV
        exact rdec_3_0 b off cap m k zs (opI c) c w _ hm hT hl hbw hcap hml (by rw [eS] at hfit; omega) hc hop hFi hSi hSh hV
      · have eS : sizI c = 2 := by rw [sizI, hsh, sizeAt4, hf]; rfl
        rw [hf] at hFi
        rw [hf, eS] at hSi
        rw [hsh, hf, eS] at hV
        exact rdec_4_0 b off cap m k zs (opI c) c w _ hm hT hl hbw hcap hml (by rw [eS] at hfit; omega) hc hop hFi hSi hSh hV
      · have eS : sizI c = 2 := by rw [sizI, hsh, sizeAt5, hf]; rfl
        rw [hf] at hFi
        rw [hf, eS] at hSi
        rw [hsh, hf, eS] at hV
        exact rdec_5_0 b off cap m k zs (opI c) c w _ hm hT hl hbw hcap hml (by rw [eS] at hfit; omega) hc hop hFi hSi hSh hV
      · have eS : sizI c = 2 := by rw [sizI, hsh, sizeAt6, hf]; rfl
        rw [hf] at hFi
        rw [hf, eS] at hSi
        rw [hsh, hf, eS] at hV
        exact rdec_6_0 b off cap m k zs (opI c) c w _ hm hT hl hbw hcap hml (by rw [eS] at hfit; omega) hc hop hFi hSi hSh hV
      · have eS : sizI c = 3 := by rw [sizI, hsh, sizeAt7, hf]; rfl
        rw [hf] at hFi
        rw [hf, eS] at hSi
        rw [hsh, hf, eS] at hV
        exact rdec_7_0 b off cap m k zs (opI c) c w _ hm hT hl hbw hcap hml (by rw [eS] at hfit; omega) hc hop hFi hSi hSh hV
      · have eS : sizI c = 3 := by rw [sizI, hsh, sizeAt8, hf]; rfl
        rw [hf] at hFi
        rw [hf, eS] at hSi
        rw [hsh, hf, eS] at hV
        exact rdec_8_0 b off cap m k zs (opI c) c w _ hm hT hl hbw hcap hml (by rw [eS] at hfit; omega) hc hop hFi hSi hSh hV
      · have eS : sizI c = 2 := by rw [sizI, hsh, sizeAt9, hf]; rfl
        rw [hf] at hFi
        rw [hf, eS] at hSi
        rw [hsh, hf, eS] at hV
        exact rdec_9_0 b off cap m k zs (opI c) c w _ hm hT hl hbw hcap hml (by rw [eS] at hfit; omega) hc hop hFi hSi hSh hV
      · have eS : sizI c = 6 := by rw [sizI, hsh, sizeAt10, hf]; rfl
        rw [hf] at hFi
        rw [hf, eS] at hSi
        rw [hsh, hf, eS] at hV
        exact rdec_10_0 b off cap m k zs (opI c) c w _ hm hT hl hbw hcap hml (by rw [eS] at hfit; omega) hc hop hFi hSi hSh hV
      · have eS : sizI c = 4 := by rw [sizI, hsh, sizeAt11, hf]; rfl
        rw [hf] at hFi
        rw [hf, eS] at hSi
        rw [hsh, hf, eS] at hV
        exact rdec_11_0 b off cap m k zs (opI c) c w _ hm hT hl hbw hcap hml (by rw [eS] at hfit; omega) hc hop hFi hSi hSh hV
      · cases hsp
      · cases hsp
    · have hs2 : s = 12 ∨ s = 13 := by
        simp [spansB] at hsp
        omega
      rcases hs2 with rfl | rfl
      · rcases hf with ⟨hf, -⟩ | ⟨hf, -⟩ | ⟨hf, -⟩ <;> change frmI c = _ at hf
        · have eS : sizI c = 2 := by rw [sizI, hsh, sizeAt12, hf]; rfl
          rw [hf] at hFi
          rw [hf, eS] at hSi
          rw [hsh, hf, eS] at hV
          exact rdec_12_1 b off cap m k zs (opI c) c w _ hm hT hl hbw hcap hml (by rw [eS] at hfit; omega) hc hop hFi hSi hSh hV
        · have eS : sizI c = 3 := by rw [sizI, hsh, sizeAt12, hf]; rfl
          rw [hf] at hFi
          rw [hf, eS] at hSi
          rw [hsh, hf, eS] at hV
          exact rdec_12_2 b off cap m k zs (opI c) c w _ hm hT hl hbw hcap hml (by rw [eS] at hfit; omega) hc hop hFi hSi hSh hV
        · have eS : sizI c = 5 := by rw [sizI, hsh, sizeAt12, hf]; rfl
          rw [hf] at hFi
          rw [hf, eS] at hSi
          rw [hsh, hf, eS] at hV
          exact rdec_12_4 b off cap m k zs (opI c) c w _ hm hT hl hbw hcap hml (by rw [eS] at hfit; omega) hc hop hFi hSi hSh hV
      · rcases hf with ⟨hf, -⟩ | ⟨hf, -⟩ | ⟨hf, -⟩ <;> change frmI c = _ at hf
        · have eS : sizI c = 3 := by rw [sizI, hsh, sizeAt13, hf]; rfl
          rw [hf] at hFi
          rw [hf, eS] at hSi
          rw [hsh, hf, eS] at hV
          exact rdec_13_1 b off cap m k zs (opI c) c w _ hm hT hl hbw hcap hml (by rw [eS] at hfit; omega) hc hop hFi hSi hSh hV
        · have eS : sizI c = 4 := by rw [sizI, hsh, sizeAt13, hf]; rfl
          rw [hf] at hFi
          rw [hf, eS] at hSi
          rw [hsh, hf, eS] at hV
          exact rdec_13_2 b off cap m k zs (opI c) c w _ hm hT hl hbw hcap hml (by rw [eS] at hfit; omega) hc hop hFi hSi hSh hV
        · have eS : sizI c = 6 := by rw [sizI, hsh, sizeAt13, hf]; rfl
          rw [hf] at hFi
          rw [hf, eS] at hSi
          rw [hsh, hf, eS] at hV
          exact rdec_13_4 b off cap m k zs (opI c) c w _ hm hT hl hbw hcap hml (by rw [eS] at hfit; omega) hc hop hFi hSi hSh hV
  · exact refDecode_bad a cap m zs at' w hm hT hl hml ha hE
end Go.Proofs.YthboapfbgdcdoaaDoor
