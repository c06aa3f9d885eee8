/- The document's Read of objects, whole. -/
import Derived.Test.YtmndccbeddaphaaGreatDoorDd8h
namespace Go.Proofs.YtmndccbeddaphaaGreatDoor
open Go.ChangeShapes Go.WideShapes Go.ChangeAt Go.RowKit Go.Sort
set_option linter.unusedVariables false
set_option linter.unusedSimpArgs false
set_option maxRecDepth 100000
theorem f45_name : Tryz.f45.name ≠ "runtime.NumGoroutine" := by decide
theorem f45_body : Tryz.f45.body ≠ none := by simp [Tryz.f45]
theorem f44_name : Tryz.f44.name ≠ "runtime.NumGoroutine" := by decide
theorem f44_body : Tryz.f44.body ≠ none := by simp [Tryz.f44]
section
variable {w : World} {a : Option Addr} {c : Nat} {zs : List Int}
set_option maxHeartbeats 40000000 in
theorem drRead_is (hl : O.Lies w a zs) (ha : ∀ x, a = some x → x.block < w.heap.size) (hn : zs.length ≤ 1048576) (hc : zs.length ≤ c) : Calls Tryz.prog 17 #[.slice a zs.length c] w fun e w' => DrOut w zs e w' := by
  have hz := hl.1
  have hap : Hid (∀ x, a = some x → x.block ≠ w.heap.size) := fun x hx e => by have := ha x hx; omega
  obtain ⟨i1, hi1, hy0, hy1, hy2⟩ := info_parts info90
  obtain ⟨i9, hi9, hq0, hq1, hq2⟩ := info_parts info9
  have hst := Hid.intro (fun (wx : World) (hx : HD w wx) h5 => rd_start hx hl ha hn hc h5)
  obtain ⟨n0, hn0⟩ : ∃ n0, n0 = zs.length := ⟨_, rfl⟩
  have hcell : Hid (∀ i, i < n0 → ∃ g o z, a = some ⟨g, o, none⟩ ∧ zs[i]? = some z ∧ ∀ wx, HD w wx → wx.cell? ⟨g, o + i, none⟩ = some (.int .u8 z)) := fun i hi => by
    obtain ⟨g, o, hag, hcells⟩ : ∃ g o, a = some ⟨g, o, none⟩ ∧ ∀ j, j < zs.length → w.cell? ⟨g, o + j, none⟩ = some (.int .u8 (zs.getD j 0)) := by
      rcases hl.2 with h1 | h1
      · rw [h1] at hn0; simp at hn0; omega
      · exact h1
    have hz1 : zs[i]? = some (zs[i]'(by omega)) := List.getElem?_eq_getElem _
    have hcc := hcells i (by omega)
    rw [List.getD_eq_getElem?_getD, hz1, Option.getD_some] at hcc
    refine ⟨g, o, _, hag, hz1, fun wx hx => ?_⟩
    exact (hx.bel.cell (p := ⟨g, o + i, none⟩) (show g < _ from ha _ hag)).trans hcc
  have hD0 := Hid.intro (HD.start w)
  rw [← hn0] at hn hst ⊢
  have hN := Hid.intro hn0
  clear hn0 hl ha hc
  go_enter Tryz.func17, Tryz.ntmps17
  go_wp2
  all_goals first | omega | skip
  go_loopw [4] (fun v4 wr => ∃ (i : Nat), i ≤ 5 ∧ v4 = .int .i64 (i : Int) ∧ Hid (HD w wr) ∧ Hid (HdI zs i none)) (fun v4 _ => 5 - (intOf v4).toNat)
  case atStart => exact ⟨0, by omega, rfl, hD0, .inl ⟨rfl, by omega, by omega, rfl⟩⟩
  case round =>
    obtain ⟨i, hi5, rfl, hD, hI⟩ := hrel
    clear hD0
    have x0 := hD.out.o0
    have x1 := hD.out.o1
    have x2 := hD.out.size
    by_cases hi : i < 5
    · have hi' : decide ((i : Int) < 5) = true := by simp; omega
      have hle : i ≤ n0 := by
        rcases hI.out with ⟨_, _, h1, _⟩ | ⟨_, _, _, h1, _⟩
        · have := hN.out; omega
        · cases h1
      obtain ⟨y, hy, hix⟩ := hd_index i hi
      have hfin : Hid (zs[i]? ≠ hdL[i]? → ∀ m, Below w.heap.size w (((((((wr.drewN m).setCell ⟨w.heap.size, 0, none⟩ (.slice none 0 0)).setCell ⟨w.heap.size, 1, none⟩ (.slice none 0 0)).setCell ⟨w.heap.size, 2, none⟩ (.slice none 0 0)).setCell ⟨w.heap.size, 3, none⟩ (.slice none 0 0)).setCell ⟨w.heap.size + 1, 0, none⟩ (.int .i64 (i : Int))).setCell ⟨w.heap.size + 1, 1, none⟩ (.int .i64 15)) ∧ (((((((wr.drewN m).setCell ⟨w.heap.size, 0, none⟩ (.slice none 0 0)).setCell ⟨w.heap.size, 1, none⟩ (.slice none 0 0)).setCell ⟨w.heap.size, 2, none⟩ (.slice none 0 0)).setCell ⟨w.heap.size, 3, none⟩ (.slice none 0 0)).setCell ⟨w.heap.size + 1, 0, none⟩ (.int .i64 (i : Int))).setCell ⟨w.heap.size + 1, 1, none⟩ (.int .i64 15)).heap[w.heap.size]? = some (.cells uZ 30 (0, 0)) ∧ (((((((wr.drewN m).setCell ⟨w.heap.size, 0, none⟩ (.slice none 0 0)).setCell ⟨w.heap.size, 1, none⟩ (.slice none 0 0)).setCell ⟨w.heap.size, 2, none⟩ (.slice none 0 0)).setCell ⟨w.heap.size, 3, none⟩ (.slice none 0 0)).setCell ⟨w.heap.size + 1, 0, none⟩ (.int .i64 (i : Int))).setCell ⟨w.heap.size + 1, 1, none⟩ (.int .i64 15)).heap[w.heap.size + 1]? = some (.cells #[.int .i64 (i : Int), .int .i64 15] 37 (0, 0)) ∧ rdBad zs = some ((i : Int), 15)) := fun hne m => by
        obtain ⟨h0, h1, hB, _⟩ := hD.out.drewN m
        obtain ⟨s0, k0⟩ := row_set h0 0 (.slice none 0 0)
        obtain ⟨s1, k1⟩ := row_set s0 1 (.slice none 0 0)
        obtain ⟨s2, k2⟩ := row_set s1 2 (.slice none 0 0)
        obtain ⟨s3, k3⟩ := row_set s2 3 (.slice none 0 0)
        have hk := grown_trans (grown_trans (grown_trans k0 k1) k2) k3
        have t1 := (hk.block _ (blk_lt h1) (fun e => by have := Option.some.inj e; omega)).trans h1
        obtain ⟨s4, k4⟩ := row_set t1 0 (.int .i64 (i : Int))
        obtain ⟨s5, k5⟩ := row_set s4 1 (.int .i64 15)
        have hk2 := grown_trans k4 k5
        exact ⟨(hB.grown hk hB.size (fun g e => by have := Option.some.inj e; omega)).grown hk2 (Nat.le_trans hB.size hk.size) (fun g e => by have := Option.some.inj e; omega), (hk2.block _ (blk_lt s3) (fun e => by have := Option.some.inj e; omega)).trans s3, s5, rdBad_ofHead (hdI_bad hI.out hi hne)⟩
      obtain ⟨z0, z1, z2, z3⟩ := four_read x0
      obtain ⟨y0, y1⟩ := two_readR x1
      have zf := fun j => frozen_of_row wr w.heap.size j _ 30 x0
      have yf := fun j => frozen_of_row wr (w.heap.size + 1) j _ 37 x1
      by_cases hend : i = n0
      · have hz0 : zs[i]? ≠ hdL[i]? := by rw [hy, List.getElem?_eq_none (by have := hN.out; omega)]; simp
        have hf := Hid.intro (hfin.out hz0)
        have he : decide ((n0 : Int) ≤ (i : Int)) = true := by simp; omega
        have he2 : (n0 : Int) ≤ (i : Int) := by omega
        clear hfin hz0 hI hcell hst x0 x1 x2 hix
        have hDn := Hid.intro (fun n => hD.out.drewN n)
        subst hend
        go_upto_region 6 with fail
        all_goals first | omega | skip
        go_quiet (fail)
        go_wp2_with fail
        all_goals first | omega | skip
        obtain ⟨e3, e1, e2, hb⟩ := hf.out nq
        generalize (((((((wr.drewN nq).setCell ⟨w.heap.size, 0, none⟩ (.slice none 0 0)).setCell ⟨w.heap.size, 1, none⟩ (.slice none 0 0)).setCell ⟨w.heap.size, 2, none⟩ (.slice none 0 0)).setCell ⟨w.heap.size, 3, none⟩ (.slice none 0 0)).setCell ⟨w.heap.size + 1, 0, none⟩ (.int .i64 (i : Int))).setCell ⟨w.heap.size + 1, 1, none⟩ (.int .i64 15)) = w9 at *
        obtain ⟨m0, m1, m2, m3⟩ := four_read e1
        obtain ⟨m4, m5⟩ := two_readR e2
        refine bodyPost_ret (by simp [results, Tryz.results17, go_sem, m0, m1, m2, m3, m4, m5]; try rfl) rfl ?_
        exact ⟨e3, .inl ⟨_, hb, rfl⟩⟩
      · have hlt : i < n0 := by omega
        obtain ⟨g, o, z, hag, hzi, hcz⟩ := hcell.out i hlt
        have hcz0 := hcz wr hD.out
        have hDn := Hid.intro (fun n => hD.out.drewN n)
        have he2 : ¬ (n0 : Int) ≤ (i : Int) := by omega
        have i1 : (0 : Int) ≤ (i : Int) := by omega
        have i2 : (i : Int) < (n0 : Int) := by omega
        subst hag
        by_cases hzy : z = y
        · have hnx := Hid.intro (hdI_next hI.out hi hzi (by rw [hzy]; exact hy))
          subst hzy
          clear hfin hI hcell hst x0 x1 x2 hy hzi hcz hD
          go_upto_region 6 with fail
          all_goals first | omega | skip
          go_quiet (fail)
          go_wp2_with fail
          all_goals first | omega | skip
          go_roundw
          case rel => exact ⟨i + 1, by omega, by go_num, hDn.out _, hnx⟩
          case measure => simp [intOf]; omega
        · have hf := Hid.intro (hfin.out (by rw [hzi, hy]; exact fun e => hzy (Option.some.inj e)))
          have hzy2 : (z == y) = false := by simpa using hzy
          clear hfin hI hcell hst x0 x1 x2 hy hzi hcz hD
          go_upto_region 6 with fail
          all_goals first | omega | skip
          go_quiet (fail)
          go_wp2_with fail
          all_goals first | omega | skip
          obtain ⟨e3, e1, e2, hb⟩ := hf.out nq
          generalize (((((((wr.drewN nq).setCell ⟨w.heap.size, 0, none⟩ (.slice none 0 0)).setCell ⟨w.heap.size, 1, none⟩ (.slice none 0 0)).setCell ⟨w.heap.size, 2, none⟩ (.slice none 0 0)).setCell ⟨w.heap.size, 3, none⟩ (.slice none 0 0)).setCell ⟨w.heap.size + 1, 0, none⟩ (.int .i64 (i : Int))).setCell ⟨w.heap.size + 1, 1, none⟩ (.int .i64 15)) = w9 at *
          obtain ⟨m0, m1, m2, m3⟩ := four_read e1
          obtain ⟨m4, m5⟩ := two_readR e2
          refine bodyPost_ret (by simp [results, Tryz.results17, go_sem, m0, m1, m2, m3, m4, m5]; try rfl) rfl ?_
          exact ⟨e3, .inl ⟨_, hb, rfl⟩⟩
    · obtain rfl : i = 5 := by omega
      have hi' : decide (((5 : Nat) : Int) < 5) = false := by decide
      have h5 : 5 ≤ n0 := by
        rcases hI.out with ⟨_, _, h1, _⟩ | ⟨_, _, _, h1, _⟩
        · have := hN.out; omega
        · cases h1
      have hhead : Hid (headF zs = (5, none)) := by
        obtain ⟨h1, h2⟩ := headF_is hI.out (fun _ => rfl)
        exact (Prod.ext h1.symm h2.symm)
      have hR1 := hst.out wr hD.out h5
      have h41 := Hid.intro (sectionT hR1 (UL.start _ _) (fun _ => ⟨fun x hx => (by cases hx), fun x hx => (by cases hx), fun x hx => (by cases hx), (by decide), (by decide), List.nodup_nil, trivial, fun x hx => (by cases hx)⟩) (fun _ => by decide))
      unfold SeT at h41
      have hsz : wr.heap.size = w.heap.size + 2 := hD.out.size
      clear hI hst hcell hR1 x0 x1 x2
      go_upto_region 14 with (first
        | (go_at_call 41; (with_reducible refine (h41.out).mono ?_); rintro e w2 ⟨vt, LT, p1, rfl, g2, hU2, hR2, hok2⟩; obtain ⟨ta, tc, rfl⟩ := own_slice hU2.t.row; have hU := Hid.intro (ru_start hD.out g2 hU2 hR2 hap.out); have h41b := Hid.intro (sectionD hU.out.rd hU.out.ul (fun hb => (hok2 hb).1) (fun hb => by have := (hok2 hb).1.few; simp at this; omega)); unfold SeD at h41b; obtain ⟨t0, t1, t2, t3⟩ := four_read hU.out.box; replace hok2 := Hid.intro hok2; have hlt2 := hU.out.lt; clear h41 g2 hU2 hR2)
        | (go_at_call 41; (with_reducible refine (h41b.out).mono ?_); rintro e w3 ⟨vd, LD, p2, rfl, g3, hU3, hR3, hok3⟩; obtain ⟨da, dc, rfl⟩ := own_slice hU3.d.row; obtain ⟨x3, hU4⟩ := hU.out.sec g3 hU3 hR3; have hbd := Hid.intro (bd_of hhead.out rfl hok2.out rfl hok3); clear t0 t1 t2 t3 hok3 hok2 hU3 hR3 h41b; generalize (rdItems zs 1 (8192 - (LT.length : Int)) (labN (LT.map (·.1)) ++ labN (([] : List (Itm × Value)).map (·.1))) p1 (rdItems zs 0 8192 (labN (([] : List (Itm × Value)).map (·.1))) 5 none).2.2.2).2.2.2 = b3 at *; obtain ⟨t0, t1, t2, t3⟩ := four_read x3; have tf := fun j => frozen_of_row w3 w2.heap.size j _ 30 x3; replace hU4 := Hid.intro hU4; have h42 := Hid.intro (numD2 hU4.out.rd); have hv3 := ndV_wd hz p2 2 b3; simp only [Int.reducePow] at hv3; obtain ⟨n3, hn3⟩ : ∃ n3 : Nat, ndV zs p2 2 b3 = (n3 : Int) := ⟨(ndV zs p2 2 b3).toNat, by omega⟩; rw [hn3] at h42 hv3; replace hn3 := Hid.intro hn3; have hn3b : n3 ≤ 65535 := (by omega); clear hv3; obtain ⟨c0, c1, c2, c3⟩ := four_readD hU4.out.rd.blk; clear g3 hU x3)
        | (go_at_call 42; (with_reducible refine (h42.out).mono ?_); rintro e w4 ⟨rfl, g4, hR4⟩; replace g4 := Hid.intro g4; replace hR4 := Hid.intro hR4; clear h42))
      all_goals first | omega | skip
      have hSE := Hid.intro (fun (w5 : World) (b2 : Rfu) hg hb2 hR => SE.start (w1 := w5) (b2 := b2) hU4.out hbd.out hn3.out hg hb2 hR)
      have hz3 : Hid (∀ f, ndB zs p2 2 b3 = some f → n3 = 0) := fun f hf => by have h1 := ndV_bad hf; have h2 := hn3.out; omega
      clear c0 c1 c2 c3 t0 t1 t2 t3 tf hU4 hbd hn3
      generalize ndB zs p2 2 b3 = B4 at *
      generalize ndP zs p2 2 b3 = P4 at *
      cases B4 with
      | some f =>
        obtain rfl := hz3.out f rfl
        have hS := Hid.intro (hSE.out w4 (some f) g4.out (manyB_s _ _).symm hR4.out)
        obtain ⟨f1, f2⟩ := f
        have hbad : Hid (rdBad zs = some (f1, f2)) := rdBad_ofE (hS.out.bad _ rfl)
        have hU := Hid.intro hS.out.ru
        clear hS hSE g4 hR4
        obtain ⟨c0, c1, c2, c3⟩ := four_readD hU.out.rd.blk
        obtain ⟨z0, z1, z2, z3⟩ := four_read hU.out.o0
        obtain ⟨y0, y1⟩ := two_readR hU.out.o1
        have zf := fun j => frozen_of_row w4 w.heap.size j _ 30 hU.out.o0
        have yf := fun j => frozen_of_row w4 (w.heap.size + 1) j _ 37 hU.out.o1
        have hnz := hU.out.rd.nz _ rfl
        simp only [bdA, bdW, Option.getD_some] at c2 c3
        dsimp only at hnz
        have hd2 : (f2 == 0) = false := by simpa using hnz
        go_wp2_with fail
        all_goals first | omega | skip
        clear c0 c1 c2 c3 z0 z1 z2 z3 y0 y1 zf yf hnz hd2
        go_loopw [10] (fun v10 wr => v10 = .int .i64 0 ∧ wr = w4) (fun v10 _ => 0)
        case atStart => exact ⟨rfl, rfl⟩
        case round =>
          obtain ⟨rfl, rfl⟩ := hrel
          obtain ⟨c0, c1, c2, c3⟩ := four_readD hU.out.rd.blk
          obtain ⟨z0, z1, z2, z3⟩ := four_read hU.out.o0
          obtain ⟨y0, y1⟩ := two_readR hU.out.o1
          have zf := fun j => frozen_of_row wr w.heap.size j _ 30 hU.out.o0
          have yf := fun j => frozen_of_row wr (w.heap.size + 1) j _ 37 hU.out.o1
          have hnz := hU.out.rd.nz _ rfl
          simp only [bdA, bdW, Option.getD_some] at c2 c3
          dsimp only at hnz
          have hd2 : (f2 == 0) = false := by simpa using hnz
          have h42 : Hid (Calls Tryz.prog 42 #[.pointer (some ⟨w.heap.size + 2, 0, none⟩), .int .i64 2] wr fun e w' => e = .returned (.int .u32 0) ∧ wr.grownBy w' (some (w.heap.size + 2)) ∧ RD w' (w.heap.size + 2) a c zs _ (some (f1, f2))) := numD2 hU.out.rd
          go_wp2_with (go_at_call 42; (with_reducible refine (h42.out).mono ?_); rintro e w7 ⟨rfl, g7, hR7⟩; have hU7 := Hid.intro (hU.out.num g7 hR7); clear g7 hR7 h42)
          all_goals first | omega | skip
          have hU7' : Hid (RU w a c zs _ _ _ _ _ _ _ _ _ _ (some (f1, f2)) w7) := hU7
          clear hU7
          go_loopw [12] (fun v12 wr => v12 = .int .i64 0 ∧ wr = w7) (fun v12 _ => 0)
          case atStart => exact ⟨rfl, rfl⟩
          case round =>
            obtain ⟨rfl, rfl⟩ := hrel
            obtain ⟨c0, c1, c2, c3⟩ := four_readD hU7'.out.rd.blk
            obtain ⟨z0, z1, z2, z3⟩ := four_read hU7'.out.o0
            obtain ⟨y0, y1⟩ := two_readR hU7'.out.o1
            have zf := fun j => frozen_of_row wr w.heap.size j _ 30 hU7'.out.o0
            have yf := fun j => frozen_of_row wr (w.heap.size + 1) j _ 37 hU7'.out.o1
            have hnz := hU7'.out.rd.nz _ rfl
            simp only [bdA, bdW, Option.getD_some] at c2 c3
            dsimp only at hnz
            have hd2 : (f2 == 0) = false := by simpa using hnz
            go_upto_region 33 with fail
            all_goals first | omega | skip
            have hUd := Hid.intro (hU7'.out.below (below_drew' wr))
            obtain ⟨e1', e2', e3', e4⟩ := hUd.out.end (.slice none 0 0) (.slice none 0 0) (.slice none 0 0) (.slice none 0 0) (.int .i64 f1) (.int .i64 f2)
            obtain ⟨r1, r2⟩ := hUd.out.mid (.slice none 0 0) (.slice none 0 0) (.slice none 0 0) (.slice none 0 0)
            obtain ⟨_, _, d2, d3⟩ := four_readD r1.blk
            simp only [bdA, bdW, Option.getD_some] at d2 d3
            obtain ⟨d4, d5⟩ := two_readR r2
            have df := fun j => frozen_of_row _ (w.heap.size + 1) j _ 37 r2
            have e1 : Hid (((((((wr.drew.setCell ⟨w.heap.size, 0, none⟩ (.slice none 0 0)).setCell ⟨w.heap.size, 1, none⟩ (.slice none 0 0)).setCell ⟨w.heap.size, 2, none⟩ (.slice none 0 0)).setCell ⟨w.heap.size, 3, none⟩ (.slice none 0 0)).setCell ⟨w.heap.size + 1, 0, none⟩ (.int .i64 f1)).setCell ⟨w.heap.size + 1, 1, none⟩ (.int .i64 f2)).heap[w.heap.size]? = some (.cells uZ 30 (0, 0))) := e1'
            have e2 : Hid (((((((wr.drew.setCell ⟨w.heap.size, 0, none⟩ (.slice none 0 0)).setCell ⟨w.heap.size, 1, none⟩ (.slice none 0 0)).setCell ⟨w.heap.size, 2, none⟩ (.slice none 0 0)).setCell ⟨w.heap.size, 3, none⟩ (.slice none 0 0)).setCell ⟨w.heap.size + 1, 0, none⟩ (.int .i64 f1)).setCell ⟨w.heap.size + 1, 1, none⟩ (.int .i64 f2)).heap[w.heap.size + 1]? = some (.cells #[.int .i64 f1, .int .i64 f2] 37 (0, 0))) := e2'
            have e3 : Hid (Below w.heap.size w ((((((wr.drew.setCell ⟨w.heap.size, 0, none⟩ (.slice none 0 0)).setCell ⟨w.heap.size, 1, none⟩ (.slice none 0 0)).setCell ⟨w.heap.size, 2, none⟩ (.slice none 0 0)).setCell ⟨w.heap.size, 3, none⟩ (.slice none 0 0)).setCell ⟨w.heap.size + 1, 0, none⟩ (.int .i64 f1)).setCell ⟨w.heap.size + 1, 1, none⟩ (.int .i64 f2))) := e3'
            clear e1' e2' e3' e4 r1 r2 hUd
            refine wp_region_last (by kernel_rfl) 6 _ rfl rfl rfl (by kernel_rfl) (fun W => W.cell? ⟨w.heap.size + 2, 2, none⟩ = some (.int .i64 f1) ∧ W.cell? ⟨w.heap.size + 2, 3, none⟩ = some (.int .i64 f2)) ⟨c2, c3⟩ (fun hHeld => ?_)
            simp only [List.setIfInBounds_toArray, List.set_cons_succ, List.set_cons_zero, noOp]
            have z0' : wr.drew.cell? ⟨w.heap.size, 0, none⟩ = _ := z0
            have z1' : wr.drew.cell? ⟨w.heap.size, 1, none⟩ = _ := z1
            have z2' : wr.drew.cell? ⟨w.heap.size, 2, none⟩ = _ := z2
            have z3' : wr.drew.cell? ⟨w.heap.size, 3, none⟩ = _ := z3
            have zf' : ∀ j, wr.drew.frozen? ⟨w.heap.size, j, none⟩ = false := zf
            generalize wr.drew = DW at *
            refine wpAnyH_take (i := 0) (v := ?vt1_0) (by simp only [List.getElem?_toArray, List.getElem?_cons_succ, List.getElem?_cons_zero]; rfl) (by kernel_rfl) (by kernel_rfl) (by kernel_rfl) (by exact fun _ _ _ h => h) (Or.inl ⟨by rfl, ?yt1_0⟩) (by assumption) ?rt1_0
            case yt1_0 => (intro w hSw; (try dsimp only at hSw); go_simp; (try with_reducible rfl))
            try simp only [Act.put, List.setIfInBounds_toArray, List.set_cons_zero, List.set_cons_succ]
            refine wpAnyH_take (i := 1) (v := ?vt1_1) (by simp only [List.getElem?_toArray, List.getElem?_cons_succ, List.getElem?_cons_zero]; rfl) (by kernel_rfl) (by kernel_rfl) (by kernel_rfl) (by exact fun _ _ _ h => h) (Or.inl ⟨by rfl, ?yt1_1⟩) (by assumption) ?rt1_1
            case yt1_1 => (intro w hSw; (try dsimp only at hSw); go_simp; (try with_reducible rfl))
            try simp only [Act.put, List.setIfInBounds_toArray, List.set_cons_zero, List.set_cons_succ]
            refine wpAnyH_take (i := 2) (v := ?vt1_2) (by simp only [List.getElem?_toArray, List.getElem?_cons_succ, List.getElem?_cons_zero]; rfl) (by kernel_rfl) (by kernel_rfl) (by kernel_rfl) (by exact fun _ _ _ h => h) (Or.inl ⟨by rfl, ?yt1_2⟩) (by assumption) ?rt1_2
            case yt1_2 => (intro w hSw; (try dsimp only at hSw); go_simp; (try with_reducible rfl))
            try simp only [Act.put, List.setIfInBounds_toArray, List.set_cons_zero, List.set_cons_succ]
            refine wpAnyH_take (i := 3) (v := ?vt1_3) (by simp only [List.getElem?_toArray, List.getElem?_cons_succ, List.getElem?_cons_zero]; rfl) (by kernel_rfl) (by kernel_rfl) (by kernel_rfl) (by exact fun _ _ _ h => h) (Or.inl ⟨by rfl, ?yt1_3⟩) (by assumption) ?rt1_3
            case yt1_3 => (intro w hSw; (try dsimp only at hSw); go_simp; (try with_reducible rfl))
            try simp only [Act.put, List.setIfInBounds_toArray, List.set_cons_zero, List.set_cons_succ]
            refine wpAnyH_take (i := 4) (v := ?vt1_4) (by simp only [List.getElem?_toArray, List.getElem?_cons_succ, List.getElem?_cons_zero]; rfl) (by kernel_rfl) (by kernel_rfl) (by kernel_rfl) (by exact fun _ _ _ h => h) (Or.inl ⟨by rfl, ?yt1_4⟩) (by assumption) ?rt1_4
            case yt1_4 => (intro w hSw; (try dsimp only at hSw); go_simp; (try with_reducible rfl))
            try simp only [Act.put, List.setIfInBounds_toArray, List.set_cons_zero, List.set_cons_succ]
            refine wpAnyH_ready (rs := [5]) (by kernel_rfl) (by simp) ?_
            refine AllReadyH.cons (o := ?op1_5) ?hop1_5 (fun K hK => ?stp1_5) AllReadyH.nil
            case hop1_5 => (simp only [List.getElem?_toArray, List.getElem?_cons_succ, List.getElem?_cons_zero]; rfl)
            go_simp
            refine hK.out _ _ ⟨d2, d3⟩ (fun hHeld => ?_)
            clear hK K
            try simp only [Act.put, List.setIfInBounds_toArray, List.set_cons_zero, List.set_cons_succ]
            refine wpAnyH_take (i := 6) (v := ?vu1_6) (by simp only [List.getElem?_toArray, List.getElem?_cons_succ, List.getElem?_cons_zero]; rfl) (by kernel_rfl) (by kernel_rfl) (by kernel_rfl) (by exact fun _ _ _ h => h) (Or.inl ⟨by rfl, ?yu1_6⟩) (by assumption) ?ru1_6
            case yu1_6 => (intro w hSw; (try dsimp only at hSw); go_simp; (try with_reducible rfl))
            try simp only [Act.put, List.setIfInBounds_toArray, List.set_cons_zero, List.set_cons_succ]
            refine wpAnyH_done (by kernel_rfl) ?_ _
            show Oper.wp _ _ _ _ _ _
            go_simp
            all_goals (go_wp2_with fail)
            all_goals first | omega | skip
            generalize (((((DW.setCell ⟨w.heap.size, 0, none⟩ (.slice none 0 0)).setCell ⟨w.heap.size, 1, none⟩ (.slice none 0 0)).setCell ⟨w.heap.size, 2, none⟩ (.slice none 0 0)).setCell ⟨w.heap.size, 3, none⟩ (.slice none 0 0)).setCell ⟨w.heap.size + 1, 0, none⟩ (.int .i64 f1)).setCell ⟨w.heap.size + 1, 1, none⟩ (.int .i64 f2) = w9 at *
            obtain ⟨m0, m1, m2, m3⟩ := four_read e1.out
            obtain ⟨m4, m5⟩ := two_readR e2.out
            refine bodyPost_ret (by simp [results, Tryz.results17, go_sem, m0, m1, m2, m3, m4, m5]; try rfl) rfl ?_
            exact ⟨e3.out, .inl ⟨(f1, f2), hbad.out, rfl⟩⟩
      | none =>
        obtain ⟨c0, c1, c2, c3⟩ := four_readD hR4.out.blk
        simp only [bdA, bdW, Option.getD_none] at c2 c3
        by_cases hmany : (n3 : Int) > 8192
        · have hb2 : Hid (some ((p2 : Int), (4 : Int)) = manyB n3 8192 p2 none) := by show _ = _; unfold manyB; rw [if_pos hmany]; rfl
          go_wp2_with (go_at_call 43; (with_reducible refine (refuseD_is hR4.out (p2 : Int) 4 (by decide)).mono ?_); rintro e w5 ⟨rfl, g5, hR5⟩; have hS := Hid.intro (hSE.out w5 _ (grown_trans g4.out g5) hb2.out hR5); clear g5 hR5)
          all_goals first | omega | skip
          obtain ⟨f1, hf1⟩ : ∃ f1, f1 = (p2 : Int) := ⟨_, rfl⟩
          obtain ⟨f2, hf2⟩ : ∃ f2, f2 = (4 : Int) := ⟨_, rfl⟩
          rw [← hf1, ← hf2] at hS
          clear hf1 hf2
          have hbad : Hid (rdBad zs = some (f1, f2)) := rdBad_ofE (hS.out.bad _ rfl)
          have hU := Hid.intro hS.out.ru
          clear hS hSE g4 hR4 c0 c1 c2 c3 hb2
          go_loopw [10] (fun v10 wr => v10 = .int .i64 0 ∧ wr = w5) (fun v10 _ => 0)
          case atStart => exact ⟨rfl, rfl⟩
          case round =>
            obtain ⟨rfl, rfl⟩ := hrel
            obtain ⟨c0, c1, c2, c3⟩ := four_readD hU.out.rd.blk
            obtain ⟨z0, z1, z2, z3⟩ := four_read hU.out.o0
            obtain ⟨y0, y1⟩ := two_readR hU.out.o1
            have zf := fun j => frozen_of_row wr w.heap.size j _ 30 hU.out.o0
            have yf := fun j => frozen_of_row wr (w.heap.size + 1) j _ 37 hU.out.o1
            have hnz := hU.out.rd.nz _ rfl
            simp only [bdA, bdW, Option.getD_some] at c2 c3
            dsimp only at hnz
            have hd2 : (f2 == 0) = false := by simpa using hnz
            have h42 : Hid (Calls Tryz.prog 42 #[.pointer (some ⟨w.heap.size + 2, 0, none⟩), .int .i64 2] wr fun e w' => e = .returned (.int .u32 0) ∧ wr.grownBy w' (some (w.heap.size + 2)) ∧ RD w' (w.heap.size + 2) a c zs _ (some (f1, f2))) := numD2 hU.out.rd
            go_wp2_with (go_at_call 42; (with_reducible refine (h42.out).mono ?_); rintro e w7 ⟨rfl, g7, hR7⟩; have hU7 := Hid.intro (hU.out.num g7 hR7); clear g7 hR7 h42)
            all_goals first | omega | skip
            have hU7' : Hid (RU w a c zs _ _ _ _ _ _ _ _ _ _ (some (f1, f2)) w7) := hU7
            clear hU7
            go_loopw [12] (fun v12 wr => v12 = .int .i64 0 ∧ wr = w7) (fun v12 _ => 0)
            case atStart => exact ⟨rfl, rfl⟩
            case round =>
              obtain ⟨rfl, rfl⟩ := hrel
              obtain ⟨c0, c1, c2, c3⟩ := four_readD hU7'.out.rd.blk
              obtain ⟨z0, z1, z2, z3⟩ := four_read hU7'.out.o0
              obtain ⟨y0, y1⟩ := two_readR hU7'.out.o1
              have zf := fun j => frozen_of_row wr w.heap.size j _ 30 hU7'.out.o0
              have yf := fun j => frozen_of_row wr (w.heap.size + 1) j _ 37 hU7'.out.o1
              have hnz := hU7'.out.rd.nz _ rfl
              simp only [bdA, bdW, Option.getD_some] at c2 c3
              dsimp only at hnz
              have hd2 : (f2 == 0) = false := by simpa using hnz
              go_upto_region 33 with fail
              all_goals first | omega | skip
              have hUd := Hid.intro (hU7'.out.below (below_drew' wr))
              obtain ⟨e1', e2', e3', e4⟩ := hUd.out.end (.slice none 0 0) (.slice none 0 0) (.slice none 0 0) (.slice none 0 0) (.int .i64 f1) (.int .i64 f2)
              obtain ⟨r1, r2⟩ := hUd.out.mid (.slice none 0 0) (.slice none 0 0) (.slice none 0 0) (.slice none 0 0)
              obtain ⟨_, _, d2, d3⟩ := four_readD r1.blk
              simp only [bdA, bdW, Option.getD_some] at d2 d3
              obtain ⟨d4, d5⟩ := two_readR r2
              have df := fun j => frozen_of_row _ (w.heap.size + 1) j _ 37 r2
              have e1 : Hid (((((((wr.drew.setCell ⟨w.heap.size, 0, none⟩ (.slice none 0 0)).setCell ⟨w.heap.size, 1, none⟩ (.slice none 0 0)).setCell ⟨w.heap.size, 2, none⟩ (.slice none 0 0)).setCell ⟨w.heap.size, 3, none⟩ (.slice none 0 0)).setCell ⟨w.heap.size + 1, 0, none⟩ (.int .i64 f1)).setCell ⟨w.heap.size + 1, 1, none⟩ (.int .i64 f2)).heap[w.heap.size]? = some (.cells uZ 30 (0, 0))) := e1'
              have e2 : Hid (((((((wr.drew.setCell ⟨w.heap.size, 0, none⟩ (.slice none 0 0)).setCell ⟨w.heap.size, 1, none⟩ (.slice none 0 0)).setCell ⟨w.heap.size, 2, none⟩ (.slice none 0 0)).setCell ⟨w.heap.size, 3, none⟩ (.slice none 0 0)).setCell ⟨w.heap.size + 1, 0, none⟩ (.int .i64 f1)).setCell ⟨w.heap.size + 1, 1, none⟩ (.int .i64 f2)).heap[w.heap.size + 1]? = some (.cells #[.int .i64 f1, .int .i64 f2] 37 (0, 0))) := e2'
              have e3 : Hid (Below w.heap.size w ((((((wr.drew.setCell ⟨w.heap.size, 0, none⟩ (.slice none 0 0)).setCell ⟨w.heap.size, 1, none⟩ (.slice none 0 0)).setCell ⟨w.heap.size, 2, none⟩ (.slice none 0 0)).setCell ⟨w.heap.size, 3, none⟩ (.slice none 0 0)).setCell ⟨w.heap.size + 1, 0, none⟩ (.int .i64 f1)).setCell ⟨w.heap.size + 1, 1, none⟩ (.int .i64 f2))) := e3'
              clear e1' e2' e3' e4 r1 r2 hUd
              refine wp_region_last (by kernel_rfl) 6 _ rfl rfl rfl (by kernel_rfl) (fun W => W.cell? ⟨w.heap.size + 2, 2, none⟩ = some (.int .i64 f1) ∧ W.cell? ⟨w.heap.size + 2, 3, none⟩ = some (.int .i64 f2)) ⟨c2, c3⟩ (fun hHeld => ?_)
              simp only [List.setIfInBounds_toArray, List.set_cons_succ, List.set_cons_zero, noOp]
              have z0' : wr.drew.cell? ⟨w.heap.size, 0, none⟩ = _ := z0
              have z1' : wr.drew.cell? ⟨w.heap.size, 1, none⟩ = _ := z1
              have z2' : wr.drew.cell? ⟨w.heap.size, 2, none⟩ = _ := z2
              have z3' : wr.drew.cell? ⟨w.heap.size, 3, none⟩ = _ := z3
              have zf' : ∀ j, wr.drew.frozen? ⟨w.heap.size, j, none⟩ = false := zf
              generalize wr.drew = DW at *
              refine wpAnyH_take (i := 0) (v := ?vt2_0) (by simp only [List.getElem?_toArray, List.getElem?_cons_succ, List.getElem?_cons_zero]; rfl) (by kernel_rfl) (by kernel_rfl) (by kernel_rfl) (by exact fun _ _ _ h => h) (Or.inl ⟨by rfl, ?yt2_0⟩) (by assumption) ?rt2_0
              case yt2_0 => (intro w hSw; (try dsimp only at hSw); go_simp; (try with_reducible rfl))
              try simp only [Act.put, List.setIfInBounds_toArray, List.set_cons_zero, List.set_cons_succ]
              refine wpAnyH_take (i := 1) (v := ?vt2_1) (by simp only [List.getElem?_toArray, List.getElem?_cons_succ, List.getElem?_cons_zero]; rfl) (by kernel_rfl) (by kernel_rfl) (by kernel_rfl) (by exact fun _ _ _ h => h) (Or.inl ⟨by rfl, ?yt2_1⟩) (by assumption) ?rt2_1
              case yt2_1 => (intro w hSw; (try dsimp only at hSw); go_simp; (try with_reducible rfl))
              try simp only [Act.put, List.setIfInBounds_toArray, List.set_cons_zero, List.set_cons_succ]
              refine wpAnyH_take (i := 2) (v := ?vt2_2) (by simp only [List.getElem?_toArray, List.getElem?_cons_succ, List.getElem?_cons_zero]; rfl) (by kernel_rfl) (by kernel_rfl) (by kernel_rfl) (by exact fun _ _ _ h => h) (Or.inl ⟨by rfl, ?yt2_2⟩) (by assumption) ?rt2_2
              case yt2_2 => (intro w hSw; (try dsimp only at hSw); go_simp; (try with_reducible rfl))
              try simp only [Act.put, List.setIfInBounds_toArray, List.set_cons_zero, List.set_cons_succ]
              refine wpAnyH_take (i := 3) (v := ?vt2_3) (by simp only [List.getElem?_toArray, List.getElem?_cons_succ, List.getElem?_cons_zero]; rfl) (by kernel_rfl) (by kernel_rfl) (by kernel_rfl) (by exact fun _ _ _ h => h) (Or.inl ⟨by rfl, ?yt2_3⟩) (by assumption) ?rt2_3
              case yt2_3 => (intro w hSw; (try dsimp only at hSw); go_simp; (try with_reducible rfl))
              try simp only [Act.put, List.setIfInBounds_toArray, List.set_cons_zero, List.set_cons_succ]
              refine wpAnyH_take (i := 4) (v := ?vt2_4) (by simp only [List.getElem?_toArray, List.getElem?_cons_succ, List.getElem?_cons_zero]; rfl) (by kernel_rfl) (by kernel_rfl) (by kernel_rfl) (by exact fun _ _ _ h => h) (Or.inl ⟨by rfl, ?yt2_4⟩) (by assumption) ?rt2_4
              case yt2_4 => (intro w hSw; (try dsimp only at hSw); go_simp; (try with_reducible rfl))
              try simp only [Act.put, List.setIfInBounds_toArray, List.set_cons_zero, List.set_cons_succ]
              refine wpAnyH_ready (rs := [5]) (by kernel_rfl) (by simp) ?_
              refine AllReadyH.cons (o := ?op2_5) ?hop2_5 (fun K hK => ?stp2_5) AllReadyH.nil
              case hop2_5 => (simp only [List.getElem?_toArray, List.getElem?_cons_succ, List.getElem?_cons_zero]; rfl)
              go_simp
              refine hK.out _ _ ⟨d2, d3⟩ (fun hHeld => ?_)
              clear hK K
              try simp only [Act.put, List.setIfInBounds_toArray, List.set_cons_zero, List.set_cons_succ]
              refine wpAnyH_take (i := 6) (v := ?vu2_6) (by simp only [List.getElem?_toArray, List.getElem?_cons_succ, List.getElem?_cons_zero]; rfl) (by kernel_rfl) (by kernel_rfl) (by kernel_rfl) (by exact fun _ _ _ h => h) (Or.inl ⟨by rfl, ?yu2_6⟩) (by assumption) ?ru2_6
              case yu2_6 => (intro w hSw; (try dsimp only at hSw); go_simp; (try with_reducible rfl))
              try simp only [Act.put, List.setIfInBounds_toArray, List.set_cons_zero, List.set_cons_succ]
              refine wpAnyH_done (by kernel_rfl) ?_ _
              show Oper.wp _ _ _ _ _ _
              go_simp
              all_goals (go_wp2_with fail)
              all_goals first | omega | skip
              generalize (((((DW.setCell ⟨w.heap.size, 0, none⟩ (.slice none 0 0)).setCell ⟨w.heap.size, 1, none⟩ (.slice none 0 0)).setCell ⟨w.heap.size, 2, none⟩ (.slice none 0 0)).setCell ⟨w.heap.size, 3, none⟩ (.slice none 0 0)).setCell ⟨w.heap.size + 1, 0, none⟩ (.int .i64 f1)).setCell ⟨w.heap.size + 1, 1, none⟩ (.int .i64 f2) = w9 at *
              obtain ⟨m0, m1, m2, m3⟩ := four_read e1.out
              obtain ⟨m4, m5⟩ := two_readR e2.out
              refine bodyPost_ret (by simp [results, Tryz.results17, go_sem, m0, m1, m2, m3, m4, m5]; try rfl) rfl ?_
              exact ⟨e3.out, .inl ⟨(f1, f2), hbad.out, rfl⟩⟩
        · have hb2 : Hid (none = manyB n3 8192 p2 none) := by show _ = _; unfold manyB; rw [if_neg hmany]
          have hS0 := Hid.intro (hSE.out w4 none g4.out hb2.out hR4.out)
          go_wp2_with fail
          all_goals first | omega | skip
          clear hSE g4 hR4 c0 c1 c2 c3 hb2
          go_loopw [10] (fun v10 wr => ∃ (j : Nat) (L : List (Eqv × Value)) (q : Nat) (b : Rfu) (v : Value), j ≤ n3 ∧ L.length ≤ j ∧ v10 = .int .i64 (j : Int) ∧ Hid (SE w a c zs w2.heap.size (.slice ta LT.length tc) (.slice da LD.length dc) LT LD (n3 - j) L q b v wr)) (fun v10 _ => n3 - (intOf v10).toNat)
          case atStart => exact ⟨0, [], _, _, _, by omega, by simp, rfl, hS0⟩
          case round =>
            obtain ⟨j, L, q, b, v, hj, hLj, rfl, hS⟩ := hrel
            clear hS0
            cases b with
            | some f =>
              obtain ⟨f1, f2⟩ := f
              have hbad : Hid (rdBad zs = some (f1, f2)) := rdBad_ofE (hS.out.bad _ rfl)
              have hU := Hid.intro hS.out.ru
              clear hS
              obtain ⟨c0, c1, c2, c3⟩ := four_readD hU.out.rd.blk
              obtain ⟨z0, z1, z2, z3⟩ := four_read hU.out.o0
              obtain ⟨y0, y1⟩ := two_readR hU.out.o1
              have zf := fun j => frozen_of_row wr w.heap.size j _ 30 hU.out.o0
              have yf := fun j => frozen_of_row wr (w.heap.size + 1) j _ 37 hU.out.o1
              have hnz := hU.out.rd.nz _ rfl
              simp only [bdA, bdW, Option.getD_some] at c2 c3
              dsimp only at hnz
              have hd2 : (f2 == 0) = false := by simpa using hnz
              by_cases hjn : j < n3
              · have h42 : Hid (Calls Tryz.prog 42 #[.pointer (some ⟨w.heap.size + 2, 0, none⟩), .int .i64 2] wr fun e w' => e = .returned (.int .u32 0) ∧ wr.grownBy w' (some (w.heap.size + 2)) ∧ RD w' (w.heap.size + 2) a c zs _ (some (f1, f2))) := numD2 hU.out.rd
                go_wp2_with (go_at_call 42; (with_reducible refine (h42.out).mono ?_); rintro e w7 ⟨rfl, g7, hR7⟩; have hU7 := Hid.intro (hU.out.num g7 hR7); clear g7 hR7 h42)
                all_goals first | omega | skip
                have hU7' : Hid (RU w a c zs _ _ _ _ _ _ _ _ _ _ (some (f1, f2)) w7) := hU7
                clear hU7
                go_loopw [12] (fun v12 wr => v12 = .int .i64 0 ∧ wr = w7) (fun v12 _ => 0)
                case atStart => exact ⟨rfl, rfl⟩
                case round =>
                  obtain ⟨rfl, rfl⟩ := hrel
                  obtain ⟨c0, c1, c2, c3⟩ := four_readD hU7'.out.rd.blk
                  obtain ⟨z0, z1, z2, z3⟩ := four_read hU7'.out.o0
                  obtain ⟨y0, y1⟩ := two_readR hU7'.out.o1
                  have zf := fun j => frozen_of_row wr w.heap.size j _ 30 hU7'.out.o0
                  have yf := fun j => frozen_of_row wr (w.heap.size + 1) j _ 37 hU7'.out.o1
                  have hnz := hU7'.out.rd.nz _ rfl
                  simp only [bdA, bdW, Option.getD_some] at c2 c3
                  dsimp only at hnz
                  have hd2 : (f2 == 0) = false := by simpa using hnz
                  go_upto_region 33 with fail
                  all_goals first | omega | skip
                  have hUd := Hid.intro (hU7'.out.below (below_drew' wr))
                  obtain ⟨e1', e2', e3', e4⟩ := hUd.out.end (.slice none 0 0) (.slice none 0 0) (.slice none 0 0) (.slice none 0 0) (.int .i64 f1) (.int .i64 f2)
                  obtain ⟨r1, r2⟩ := hUd.out.mid (.slice none 0 0) (.slice none 0 0) (.slice none 0 0) (.slice none 0 0)
                  obtain ⟨_, _, d2, d3⟩ := four_readD r1.blk
                  simp only [bdA, bdW, Option.getD_some] at d2 d3
                  obtain ⟨d4, d5⟩ := two_readR r2
                  have df := fun j => frozen_of_row _ (w.heap.size + 1) j _ 37 r2
                  have e1 : Hid (((((((wr.drew.setCell ⟨w.heap.size, 0, none⟩ (.slice none 0 0)).setCell ⟨w.heap.size, 1, none⟩ (.slice none 0 0)).setCell ⟨w.heap.size, 2, none⟩ (.slice none 0 0)).setCell ⟨w.heap.size, 3, none⟩ (.slice none 0 0)).setCell ⟨w.heap.size + 1, 0, none⟩ (.int .i64 f1)).setCell ⟨w.heap.size + 1, 1, none⟩ (.int .i64 f2)).heap[w.heap.size]? = some (.cells uZ 30 (0, 0))) := e1'
                  have e2 : Hid (((((((wr.drew.setCell ⟨w.heap.size, 0, none⟩ (.slice none 0 0)).setCell ⟨w.heap.size, 1, none⟩ (.slice none 0 0)).setCell ⟨w.heap.size, 2, none⟩ (.slice none 0 0)).setCell ⟨w.heap.size, 3, none⟩ (.slice none 0 0)).setCell ⟨w.heap.size + 1, 0, none⟩ (.int .i64 f1)).setCell ⟨w.heap.size + 1, 1, none⟩ (.int .i64 f2)).heap[w.heap.size + 1]? = some (.cells #[.int .i64 f1, .int .i64 f2] 37 (0, 0))) := e2'
                  have e3 : Hid (Below w.heap.size w ((((((wr.drew.setCell ⟨w.heap.size, 0, none⟩ (.slice none 0 0)).setCell ⟨w.heap.size, 1, none⟩ (.slice none 0 0)).setCell ⟨w.heap.size, 2, none⟩ (.slice none 0 0)).setCell ⟨w.heap.size, 3, none⟩ (.slice none 0 0)).setCell ⟨w.heap.size + 1, 0, none⟩ (.int .i64 f1)).setCell ⟨w.heap.size + 1, 1, none⟩ (.int .i64 f2))) := e3'
                  clear e1' e2' e3' e4 r1 r2 hUd
                  refine wp_region_last (by kernel_rfl) 6 _ rfl rfl rfl (by kernel_rfl) (fun W => W.cell? ⟨w.heap.size + 2, 2, none⟩ = some (.int .i64 f1) ∧ W.cell? ⟨w.heap.size + 2, 3, none⟩ = some (.int .i64 f2)) ⟨c2, c3⟩ (fun hHeld => ?_)
                  simp only [List.setIfInBounds_toArray, List.set_cons_succ, List.set_cons_zero, noOp]
                  have z0' : wr.drew.cell? ⟨w.heap.size, 0, none⟩ = _ := z0
                  have z1' : wr.drew.cell? ⟨w.heap.size, 1, none⟩ = _ := z1
                  have z2' : wr.drew.cell? ⟨w.heap.size, 2, none⟩ = _ := z2
                  have z3' : wr.drew.cell? ⟨w.heap.size, 3, none⟩ = _ := z3
                  have zf' : ∀ j, wr.drew.frozen? ⟨w.heap.size, j, none⟩ = false := zf
                  generalize wr.drew = DW at *
                  refine wpAnyH_take (i := 0) (v := ?vt3_0) (by simp only [List.getElem?_toArray, List.getElem?_cons_succ, List.getElem?_cons_zero]; rfl) (by kernel_rfl) (by kernel_rfl) (by kernel_rfl) (by exact fun _ _ _ h => h) (Or.inl ⟨by rfl, ?yt3_0⟩) (by assumption) ?rt3_0
                  case yt3_0 => (intro w hSw; (try dsimp only at hSw); go_simp; (try with_reducible rfl))
                  try simp only [Act.put, List.setIfInBounds_toArray, List.set_cons_zero, List.set_cons_succ]
                  refine wpAnyH_take (i := 1) (v := ?vt3_1) (by simp only [List.getElem?_toArray, List.getElem?_cons_succ, List.getElem?_cons_zero]; rfl) (by kernel_rfl) (by kernel_rfl) (by kernel_rfl) (by exact fun _ _ _ h => h) (Or.inl ⟨by rfl, ?yt3_1⟩) (by assumption) ?rt3_1
                  case yt3_1 => (intro w hSw; (try dsimp only at hSw); go_simp; (try with_reducible rfl))
                  try simp only [Act.put, List.setIfInBounds_toArray, List.set_cons_zero, List.set_cons_succ]
                  refine wpAnyH_take (i := 2) (v := ?vt3_2) (by simp only [List.getElem?_toArray, List.getElem?_cons_succ, List.getElem?_cons_zero]; rfl) (by kernel_rfl) (by kernel_rfl) (by kernel_rfl) (by exact fun _ _ _ h => h) (Or.inl ⟨by rfl, ?yt3_2⟩) (by assumption) ?rt3_2
                  case yt3_2 => (intro w hSw; (try dsimp only at hSw); go_simp; (try with_reducible rfl))
                  try simp only [Act.put, List.setIfInBounds_toArray, List.set_cons_zero, List.set_cons_succ]
                  refine wpAnyH_take (i := 3) (v := ?vt3_3) (by simp only [List.getElem?_toArray, List.getElem?_cons_succ, List.getElem?_cons_zero]; rfl) (by kernel_rfl) (by kernel_rfl) (by kernel_rfl) (by exact fun _ _ _ h => h) (Or.inl ⟨by rfl, ?yt3_3⟩) (by assumption) ?rt3_3
                  case yt3_3 => (intro w hSw; (try dsimp only at hSw); go_simp; (try with_reducible rfl))
                  try simp only [Act.put, List.setIfInBounds_toArray, List.set_cons_zero, List.set_cons_succ]
                  refine wpAnyH_take (i := 4) (v := ?vt3_4) (by simp only [List.getElem?_toArray, List.getElem?_cons_succ, List.getElem?_cons_zero]; rfl) (by kernel_rfl) (by kernel_rfl) (by kernel_rfl) (by exact fun _ _ _ h => h) (Or.inl ⟨by rfl, ?yt3_4⟩) (by assumption) ?rt3_4
                  case yt3_4 => (intro w hSw; (try dsimp only at hSw); go_simp; (try with_reducible rfl))
                  try simp only [Act.put, List.setIfInBounds_toArray, List.set_cons_zero, List.set_cons_succ]
                  refine wpAnyH_ready (rs := [5]) (by kernel_rfl) (by simp) ?_
                  refine AllReadyH.cons (o := ?op3_5) ?hop3_5 (fun K hK => ?stp3_5) AllReadyH.nil
                  case hop3_5 => (simp only [List.getElem?_toArray, List.getElem?_cons_succ, List.getElem?_cons_zero]; rfl)
                  go_simp
                  refine hK.out _ _ ⟨d2, d3⟩ (fun hHeld => ?_)
                  clear hK K
                  try simp only [Act.put, List.setIfInBounds_toArray, List.set_cons_zero, List.set_cons_succ]
                  refine wpAnyH_take (i := 6) (v := ?vu3_6) (by simp only [List.getElem?_toArray, List.getElem?_cons_succ, List.getElem?_cons_zero]; rfl) (by kernel_rfl) (by kernel_rfl) (by kernel_rfl) (by exact fun _ _ _ h => h) (Or.inl ⟨by rfl, ?yu3_6⟩) (by assumption) ?ru3_6
                  case yu3_6 => (intro w hSw; (try dsimp only at hSw); go_simp; (try with_reducible rfl))
                  try simp only [Act.put, List.setIfInBounds_toArray, List.set_cons_zero, List.set_cons_succ]
                  refine wpAnyH_done (by kernel_rfl) ?_ _
                  show Oper.wp _ _ _ _ _ _
                  go_simp
                  all_goals (go_wp2_with fail)
                  all_goals first | omega | skip
                  generalize (((((DW.setCell ⟨w.heap.size, 0, none⟩ (.slice none 0 0)).setCell ⟨w.heap.size, 1, none⟩ (.slice none 0 0)).setCell ⟨w.heap.size, 2, none⟩ (.slice none 0 0)).setCell ⟨w.heap.size, 3, none⟩ (.slice none 0 0)).setCell ⟨w.heap.size + 1, 0, none⟩ (.int .i64 f1)).setCell ⟨w.heap.size + 1, 1, none⟩ (.int .i64 f2) = w9 at *
                  obtain ⟨m0, m1, m2, m3⟩ := four_read e1.out
                  obtain ⟨m4, m5⟩ := two_readR e2.out
                  refine bodyPost_ret (by simp [results, Tryz.results17, go_sem, m0, m1, m2, m3, m4, m5]; try rfl) rfl ?_
                  exact ⟨e3.out, .inl ⟨(f1, f2), hbad.out, rfl⟩⟩
              · have h42 : Hid (Calls Tryz.prog 42 #[.pointer (some ⟨w.heap.size + 2, 0, none⟩), .int .i64 2] wr fun e w' => e = .returned (.int .u32 0) ∧ wr.grownBy w' (some (w.heap.size + 2)) ∧ RD w' (w.heap.size + 2) a c zs _ (some (f1, f2))) := numD2 hU.out.rd
                go_wp2_with (go_at_call 42; (with_reducible refine (h42.out).mono ?_); rintro e w7 ⟨rfl, g7, hR7⟩; have hU7 := Hid.intro (hU.out.num g7 hR7); clear g7 hR7 h42)
                all_goals first | omega | skip
                have hU7' : Hid (RU w a c zs _ _ _ _ _ _ _ _ _ _ (some (f1, f2)) w7) := hU7
                clear hU7
                go_loopw [12] (fun v12 wr => v12 = .int .i64 0 ∧ wr = w7) (fun v12 _ => 0)
                case atStart => exact ⟨rfl, rfl⟩
                case round =>
                  obtain ⟨rfl, rfl⟩ := hrel
                  obtain ⟨c0, c1, c2, c3⟩ := four_readD hU7'.out.rd.blk
                  obtain ⟨z0, z1, z2, z3⟩ := four_read hU7'.out.o0
                  obtain ⟨y0, y1⟩ := two_readR hU7'.out.o1
                  have zf := fun j => frozen_of_row wr w.heap.size j _ 30 hU7'.out.o0
                  have yf := fun j => frozen_of_row wr (w.heap.size + 1) j _ 37 hU7'.out.o1
                  have hnz := hU7'.out.rd.nz _ rfl
                  simp only [bdA, bdW, Option.getD_some] at c2 c3
                  dsimp only at hnz
                  have hd2 : (f2 == 0) = false := by simpa using hnz
                  go_upto_region 33 with fail
                  all_goals first | omega | skip
                  have hUd := Hid.intro (hU7'.out.below (below_drew' wr))
                  obtain ⟨e1', e2', e3', e4⟩ := hUd.out.end (.slice none 0 0) (.slice none 0 0) (.slice none 0 0) (.slice none 0 0) (.int .i64 f1) (.int .i64 f2)
                  obtain ⟨r1, r2⟩ := hUd.out.mid (.slice none 0 0) (.slice none 0 0) (.slice none 0 0) (.slice none 0 0)
                  obtain ⟨_, _, d2, d3⟩ := four_readD r1.blk
                  simp only [bdA, bdW, Option.getD_some] at d2 d3
                  obtain ⟨d4, d5⟩ := two_readR r2
                  have df := fun j => frozen_of_row _ (w.heap.size + 1) j _ 37 r2
                  have e1 : Hid (((((((wr.drew.setCell ⟨w.heap.size, 0, none⟩ (.slice none 0 0)).setCell ⟨w.heap.size, 1, none⟩ (.slice none 0 0)).setCell ⟨w.heap.size, 2, none⟩ (.slice none 0 0)).setCell ⟨w.heap.size, 3, none⟩ (.slice none 0 0)).setCell ⟨w.heap.size + 1, 0, none⟩ (.int .i64 f1)).setCell ⟨w.heap.size + 1, 1, none⟩ (.int .i64 f2)).heap[w.heap.size]? = some (.cells uZ 30 (0, 0))) := e1'
                  have e2 : Hid (((((((wr.drew.setCell ⟨w.heap.size, 0, none⟩ (.slice none 0 0)).setCell ⟨w.heap.size, 1, none⟩ (.slice none 0 0)).setCell ⟨w.heap.size, 2, none⟩ (.slice none 0 0)).setCell ⟨w.heap.size, 3, none⟩ (.slice none 0 0)).setCell ⟨w.heap.size + 1, 0, none⟩ (.int .i64 f1)).setCell ⟨w.heap.size + 1, 1, none⟩ (.int .i64 f2)).heap[w.heap.size + 1]? = some (.cells #[.int .i64 f1, .int .i64 f2] 37 (0, 0))) := e2'
                  have e3 : Hid (Below w.heap.size w ((((((wr.drew.setCell ⟨w.heap.size, 0, none⟩ (.slice none 0 0)).setCell ⟨w.heap.size, 1, none⟩ (.slice none 0 0)).setCell ⟨w.heap.size, 2, none⟩ (.slice none 0 0)).setCell ⟨w.heap.size, 3, none⟩ (.slice none 0 0)).setCell ⟨w.heap.size + 1, 0, none⟩ (.int .i64 f1)).setCell ⟨w.heap.size + 1, 1, none⟩ (.int .i64 f2))) := e3'
                  clear e1' e2' e3' e4 r1 r2 hUd
                  refine wp_region_last (by kernel_rfl) 6 _ rfl rfl rfl (by kernel_rfl) (fun W => W.cell? ⟨w.heap.size + 2, 2, none⟩ = some (.int .i64 f1) ∧ W.cell? ⟨w.heap.size + 2, 3, none⟩ = some (.int .i64 f2)) ⟨c2, c3⟩ (fun hHeld => ?_)
                  simp only [List.setIfInBounds_toArray, List.set_cons_succ, List.set_cons_zero, noOp]
                  have z0' : wr.drew.cell? ⟨w.heap.size, 0, none⟩ = _ := z0
                  have z1' : wr.drew.cell? ⟨w.heap.size, 1, none⟩ = _ := z1
                  have z2' : wr.drew.cell? ⟨w.heap.size, 2, none⟩ = _ := z2
                  have z3' : wr.drew.cell? ⟨w.heap.size, 3, none⟩ = _ := z3
                  have zf' : ∀ j, wr.drew.frozen? ⟨w.heap.size, j, none⟩ = false := zf
                  generalize wr.drew = DW at *
                  refine wpAnyH_take (i := 0) (v := ?vt4_0) (by simp only [List.getElem?_toArray, List.getElem?_cons_succ, List.getElem?_cons_zero]; rfl) (by kernel_rfl) (by kernel_rfl) (by kernel_rfl) (by exact fun _ _ _ h => h) (Or.inl ⟨by rfl, ?yt4_0⟩) (by assumption) ?rt4_0
                  case yt4_0 => (intro w hSw; (try dsimp only at hSw); go_simp; (try with_reducible rfl))
                  try simp only [Act.put, List.setIfInBounds_toArray, List.set_cons_zero, List.set_cons_succ]
                  refine wpAnyH_take (i := 1) (v := ?vt4_1) (by simp only [List.getElem?_toArray, List.getElem?_cons_succ, List.getElem?_cons_zero]; rfl) (by kernel_rfl) (by kernel_rfl) (by kernel_rfl) (by exact fun _ _ _ h => h) (Or.inl ⟨by rfl, ?yt4_1⟩) (by assumption) ?rt4_1
                  case yt4_1 => (intro w hSw; (try dsimp only at hSw); go_simp; (try with_reducible rfl))
                  try simp only [Act.put, List.setIfInBounds_toArray, List.set_cons_zero, List.set_cons_succ]
                  refine wpAnyH_take (i := 2) (v := ?vt4_2) (by simp only [List.getElem?_toArray, List.getElem?_cons_succ, List.getElem?_cons_zero]; rfl) (by kernel_rfl) (by kernel_rfl) (by kernel_rfl) (by exact fun _ _ _ h => h) (Or.inl ⟨by rfl, ?yt4_2⟩) (by assumption) ?rt4_2
                  case yt4_2 => (intro w hSw; (try dsimp only at hSw); go_simp; (try with_reducible rfl))
                  try simp only [Act.put, List.setIfInBounds_toArray, List.set_cons_zero, List.set_cons_succ]
                  refine wpAnyH_take (i := 3) (v := ?vt4_3) (by simp only [List.getElem?_toArray, List.getElem?_cons_succ, List.getElem?_cons_zero]; rfl) (by kernel_rfl) (by kernel_rfl) (by kernel_rfl) (by exact fun _ _ _ h => h) (Or.inl ⟨by rfl, ?yt4_3⟩) (by assumption) ?rt4_3
                  case yt4_3 => (intro w hSw; (try dsimp only at hSw); go_simp; (try with_reducible rfl))
                  try simp only [Act.put, List.setIfInBounds_toArray, List.set_cons_zero, List.set_cons_succ]
                  refine wpAnyH_take (i := 4) (v := ?vt4_4) (by simp only [List.getElem?_toArray, List.getElem?_cons_succ, List.getElem?_cons_zero]; rfl) (by kernel_rfl) (by kernel_rfl) (by kernel_rfl) (by exact fun _ _ _ h => h) (Or.inl ⟨by rfl, ?yt4_4⟩) (by assumption) ?rt4_4
                  case yt4_4 => (intro w hSw; (try dsimp only at hSw); go_simp; (try with_reducible rfl))
                  try simp only [Act.put, List.setIfInBounds_toArray, List.set_cons_zero, List.set_cons_succ]
                  refine wpAnyH_ready (rs := [5]) (by kernel_rfl) (by simp) ?_
                  refine AllReadyH.cons (o := ?op4_5) ?hop4_5 (fun K hK => ?stp4_5) AllReadyH.nil
                  case hop4_5 => (simp only [List.getElem?_toArray, List.getElem?_cons_succ, List.getElem?_cons_zero]; rfl)
                  go_simp
                  refine hK.out _ _ ⟨d2, d3⟩ (fun hHeld => ?_)
                  clear hK K
                  try simp only [Act.put, List.setIfInBounds_toArray, List.set_cons_zero, List.set_cons_succ]
                  refine wpAnyH_take (i := 6) (v := ?vu4_6) (by simp only [List.getElem?_toArray, List.getElem?_cons_succ, List.getElem?_cons_zero]; rfl) (by kernel_rfl) (by kernel_rfl) (by kernel_rfl) (by exact fun _ _ _ h => h) (Or.inl ⟨by rfl, ?yu4_6⟩) (by assumption) ?ru4_6
                  case yu4_6 => (intro w hSw; (try dsimp only at hSw); go_simp; (try with_reducible rfl))
                  try simp only [Act.put, List.setIfInBounds_toArray, List.set_cons_zero, List.set_cons_succ]
                  refine wpAnyH_done (by kernel_rfl) ?_ _
                  show Oper.wp _ _ _ _ _ _
                  go_simp
                  all_goals (go_wp2_with fail)
                  all_goals first | omega | skip
                  generalize (((((DW.setCell ⟨w.heap.size, 0, none⟩ (.slice none 0 0)).setCell ⟨w.heap.size, 1, none⟩ (.slice none 0 0)).setCell ⟨w.heap.size, 2, none⟩ (.slice none 0 0)).setCell ⟨w.heap.size, 3, none⟩ (.slice none 0 0)).setCell ⟨w.heap.size + 1, 0, none⟩ (.int .i64 f1)).setCell ⟨w.heap.size + 1, 1, none⟩ (.int .i64 f2) = w9 at *
                  obtain ⟨m0, m1, m2, m3⟩ := four_read e1.out
                  obtain ⟨m4, m5⟩ := two_readR e2.out
                  refine bodyPost_ret (by simp [results, Tryz.results17, go_sem, m0, m1, m2, m3, m4, m5]; try rfl) rfl ?_
                  exact ⟨e3.out, .inl ⟨(f1, f2), hbad.out, rfl⟩⟩
            | none =>
              obtain ⟨c0, c1, c2, c3⟩ := four_readD hS.out.ru.rd.blk
              simp only [bdA, bdW, Option.getD_none] at c2 c3
              obtain ⟨va9, vc9, rfl⟩ := own_slice hS.out.ru.ul.e.row
              by_cases hjn : j < n3
              · obtain ⟨l9, hl9⟩ : ∃ l9, l9 = L.length := ⟨_, rfl⟩
                have hk : n3 - j = (n3 - (j + 1)) + 1 := by omega
                have hSk := hS.out
                rw [hk] at hSk
                have x0 := hSk.ru.box
                rw [← hl9] at x0
                have h44 : Hid (Calls Tryz.prog 44 #[.pointer (some ⟨w.heap.size + 2, 0, none⟩)] wr fun e w' => e = .returned (.string (str (txL zs q))) ∧ wr.grownBy w' (some (w.heap.size + 2)) ∧ RD w' (w.heap.size + 2) a c zs (tdP zs q none) (tdB zs q none)) := by
                  have := textD_is hSk.ru.rd
                  rw [show tdS zs q none = str (txL zs q) from (str_txL zs q).symm] at this
                  exact this
                have h45 : Hid (∀ wa n, wr.grownBy wa (some (w.heap.size + 2)) → RD wa (w.heap.size + 2) a c zs (tdP zs q none) (tdB zs q none) → Calls Tryz.prog 45 #[.pointer (some ⟨w.heap.size + 2, 0, none⟩)] (wa.drewN n) fun e w' => ∃ v ts cn p', e = .returned (.agg #[v, .int .u32 cn]) ∧ wr.grownBy w' (some (w.heap.size + 2)) ∧ w'.ownsRow (w.heap.size + 2 + 1) 107 2 v ts.length (rowT ts) ∧ RD w' (w.heap.size + 2) a c zs p' (eqR zs q none).2.2 ∧ ((eqR zs q none).2.2 = none → ((txL zs q, ⟨ts, cn⟩) : Eqv) = (eqR zs q none).1 ∧ p' = (eqR zs q none).2.1)) := fun wa n hg hR => by
                  have hat := hSk.ru.rd.at_
                  refine (linD_is (hR.below (below_drewN (Below.refl wa.heap.size wa) n))).mono ?_
                  rintro e w' ⟨v, ts, cn, p', h1, h2, h3, h4, h5⟩
                  rw [tdB_eq hz hat] at h4 h5
                  refine ⟨v, ts, cn, p', h1, grown_trans hg ⟨h2.os, h2.tape, h2.output, h2.size, h2.block⟩, own_weaken h3 (by have := blk_lt hR.blk; show _ ≤ wa.heap.size; omega), h4, fun h0 => ?_⟩
                  obtain ⟨e1, e2, e3⟩ := h5 h0
                  rw [e1, e2, e3]
                  exact ⟨rfl, rfl⟩
                have hx : Hid (∀ wa, wr.grownBy wa (some (w.heap.size + 2)) → wa.heap[w2.heap.size]? = some (.cells #[.slice ta LT.length tc, .slice da LD.length dc, .slice va9 l9 vc9, .slice none 0 0] 30 (0, 0)) ∧ ∀ o, (wa.alloc o).ownsRow (w.heap.size + 2 + 1) 90 3 (.slice va9 l9 vc9) l9 (rowE L) ∧ w.heap.size + 2 + 1 ≤ (wa.alloc o).heap.size) := fun wa hg => by
                  have hh := hSk.ru.lt
                  have h1 := (hg.block _ (blk_lt x0) (fun e => by have := Option.some.inj e; omega)).trans x0
                  refine ⟨h1, fun o => ?_⟩
                  have h2 := own_keptB (own_low hSk.ru.ul.e.row hg (Nat.lt_succ_self _)) (below_alloc wa o)
                  rw [← hl9] at h2
                  exact ⟨h2, by have := blk_lt h1; simp; omega⟩
                have hnx : Hid (∀ w6 vx ts cn p' o v' w7, wr.grownBy w6 (some (w.heap.size + 2)) → w6.ownsRow (w.heap.size + 2 + 1) 107 2 vx ts.length (rowT ts) → RD w6 (w.heap.size + 2) a c zs p' (eqR zs q none).2.2 → ((eqR zs q none).2.2 = none → ((txL zs q, ⟨ts, cn⟩) : Eqv) = (eqR zs q none).1 ∧ p' = (eqR zs q none).2.1) → w7.ownsRow (w.heap.size + 2 + 1) 90 3 v' (l9 + 1) (rowE L ++ (eqCells (txL zs q, ⟨ts, cn⟩) vx).toList) → (w6.alloc o).grownBy w7 (Value.slice va9 l9 vc9).ownBlock → _) := fun w6 vx ts cn p' o v' w7 h1 h2 h3 h4 h5 h6 => by
                  rw [hl9] at h5 h6
                  exact hSk.next h1 h2 h3 h4 o h5 h6
                rw [← hl9] at hnx
                obtain ⟨t0, t1, t2, t3⟩ := four_read x0
                have hl10 : l9 ≤ 65535 := by omega
                generalize eqB (eqR zs q none).1 (nmTD LT LD ++ L.map (·.1.1)) q (eqR zs q none).2.2 = B9 at *
                generalize eqR zs q none = X9 at *
                generalize tdP zs q none = P9 at *
                generalize tdB zs q none = D9 at *
                generalize hsn : txL zs q = sN at *
                generalize rowE L = RL at *
                clear hS hSk hk hl9 hsn x0
                go_upto_region 21 with (go_at_call 44; (with_reducible refine (h44.out).mono ?_); rintro e w5 ⟨rfl, g5, hR5⟩; have z5 := (hx.out w5 g5).1; replace g5 := Hid.intro g5; replace hR5 := Hid.intro hR5; clear h44)
                all_goals first | omega | skip
                have k0 := (four_read z5).2.2.1
                refine wp_region_last (by kernel_rfl) 9 _ rfl rfl rfl (by kernel_rfl) (fun W => W.cell? ⟨w2.heap.size, 2, none⟩ = some (.slice va9 l9 vc9)) k0 (fun hHeld => ?_)
                simp only [List.setIfInBounds_toArray, List.set_cons_succ, List.set_cons_zero, noOp]
                refine wpAnyH_take (i := 0) (v := ?va_0) (by simp only [List.getElem?_toArray, List.getElem?_cons_succ, List.getElem?_cons_zero]; rfl) (by kernel_rfl) (by kernel_rfl) (by kernel_rfl) (by exact fun _ _ _ h => h) (Or.inl ⟨by rfl, ?ya_0⟩) (by assumption) ?ra_0
                case ya_0 => (intro w hSw; (try dsimp only at hSw); go_simp; (try with_reducible rfl))
                try simp only [Act.put, List.setIfInBounds_toArray, List.set_cons_zero, List.set_cons_succ]
                refine wpAnyH_take (i := 1) (v := ?va_1) (by simp only [List.getElem?_toArray, List.getElem?_cons_succ, List.getElem?_cons_zero]; rfl) (by kernel_rfl) (by kernel_rfl) (by kernel_rfl) (by exact fun _ _ _ h => h) (Or.inl ⟨by rfl, ?ya_1⟩) (by assumption) ?ra_1
                case ya_1 => (intro w hSw; (try dsimp only at hSw); go_simp; (try with_reducible rfl))
                try simp only [Act.put, List.setIfInBounds_toArray, List.set_cons_zero, List.set_cons_succ]
                refine wpAnyH_take (i := 2) (v := ?va_2) (by simp only [List.getElem?_toArray, List.getElem?_cons_succ, List.getElem?_cons_zero]; rfl) (by kernel_rfl) (by kernel_rfl) (by kernel_rfl) (by exact fun _ _ _ h => h) (Or.inl ⟨by rfl, ?ya_2⟩) (by assumption) ?ra_2
                case ya_2 => (intro w hSw; (try dsimp only at hSw); go_simp; (try with_reducible rfl))
                try simp only [Act.put, List.setIfInBounds_toArray, List.set_cons_zero, List.set_cons_succ]
                refine wpAnyH_take (i := 3) (v := ?va_3) (by simp only [List.getElem?_toArray, List.getElem?_cons_succ, List.getElem?_cons_zero]; rfl) (by kernel_rfl) (by kernel_rfl) (by kernel_rfl) (by exact fun _ _ _ h => h) (Or.inl ⟨by rfl, ?ya_3⟩) (by assumption) ?ra_3
                case ya_3 => (intro w hSw; (try dsimp only at hSw); go_simp; (try with_reducible rfl))
                try simp only [Act.put, List.setIfInBounds_toArray, List.set_cons_zero, List.set_cons_succ]
                refine wpAnyH_ready (rs := [4]) (by kernel_rfl) (by simp) ?_
                refine AllReadyH.cons (o := ?op_4) ?hop_4 (fun K hK => ?stp_4) AllReadyH.nil
                case hop_4 => (simp only [List.getElem?_toArray, List.getElem?_cons_succ, List.getElem?_cons_zero]; rfl)
                refine step_fnA Tryz.prog _ rfl 45 _ _ rfl #[.pointer (some ⟨w.heap.size + 2, 0, none⟩)] (by simp [Act.eval]) _ rfl f45_name f45_body ?_
                refine (h45.out w5 1 g5.out hR5.out).mono ?_
                rintro e w6 ⟨vx, ts, cn, p6, rfl, g6, ho6, hR6, hx6⟩
                obtain ⟨ax, cx, rfl⟩ := own_slice ho6
                obtain ⟨z6, z6b⟩ := hx.out w6 g6
                have z6a := (four_read (keepB z6 (.cells #[.string (str sN), .slice ax ts.length cx, .int .u32 cn] 90))).2.2.1
                replace z6b := Hid.intro z6b
                replace g6 := Hid.intro g6
                replace ho6 := Hid.intro ho6
                replace hR6 := Hid.intro hR6
                replace hx6 := Hid.intro hx6
                refine ⟨_, rfl, hK.out _ _ (four_read z6).2.2.1 (fun hHeld => ?_)⟩
                clear hK K z6
                try simp only [Act.put, List.setIfInBounds_toArray, List.set_cons_zero, List.set_cons_succ]
                refine wpAnyH_take (i := 5) (v := ?vb_5) (by simp only [List.getElem?_toArray, List.getElem?_cons_succ, List.getElem?_cons_zero]; rfl) (by kernel_rfl) (by kernel_rfl) (by kernel_rfl) (by exact fun _ _ _ h => h) (Or.inl ⟨by rfl, ?yb_5⟩) (by assumption) ?rb_5
                case yb_5 => (intro w hSw; (try dsimp only at hSw); go_simp; (try with_reducible rfl))
                try simp only [Act.put, List.setIfInBounds_toArray, List.set_cons_zero, List.set_cons_succ]
                refine wpAnyH_ready (rs := [6]) (by kernel_rfl) (by simp) ?_
                refine AllReadyH.cons (o := ?op_6) ?hop_6 (fun K hK => ?stp_6) AllReadyH.nil
                case hop_6 => (simp only [List.getElem?_toArray, List.getElem?_cons_succ, List.getElem?_cons_zero]; rfl)
                go_simp
                refine hK.out _ _ z6a (fun hHeld => ?_)
                clear hK K
                try simp only [Act.put, List.setIfInBounds_toArray, List.set_cons_zero, List.set_cons_succ]
                refine wpAnyH_ready (rs := [7]) (by kernel_rfl) (by simp) ?_
                refine AllReadyH.cons (o := ?op_7) ?hop_7 (fun K hK => ?stp_7) AllReadyH.nil
                case hop_7 => (simp only [List.getElem?_toArray, List.getElem?_cons_succ, List.getElem?_cons_zero]; rfl)
                refine step_app _ rfl (.tmp 88) (.tmp 93) 27 rfl (w.heap.size + 2 + 1) 90 i1 _ 3 48 Tryz.underlying27 hi1 hy0 hy1 hy2 rfl (by decide) (.slice va9 l9 vc9) l9 RL rfl (z6b.out _).1 (.slice (some ⟨w6.heap.size, 0, none⟩) 1 1) 1 [.string (str sN), .slice ax ts.length cx, .int .u32 cn] rfl (.inr ⟨_, _, rfl, cells_new w6 #[.string (str sN), .slice ax ts.length cx, .int .u32 cn] 90⟩) rfl (by simp [Value.oneCell']) (by unfold maxLen; omega) (by omega) (z6b.out _).2 ?_
                intro v7 w7 ho7 hg7 hw7
                obtain ⟨a7, c7, rfl⟩ := own_slice ho7
                obtain ⟨u1, u2, u3, u4⟩ := hnx.out w6 _ ts cn p6 _ _ w7 g6.out ho6.out hR6.out hx6.out ho7 hg7
                have uf := frozen_of_row w7 w2.heap.size 2 _ 30 u1
                have u5 := (four_read u1).2.2.1
                obtain ⟨s0, s1, s2, s3⟩ := four_read u2.box
                replace u2 := Hid.intro u2
                replace u3 := Hid.intro u3
                replace u4 := Hid.intro u4
                clear ho7 hg7 hw7
                refine hK.out _ _ u5 (fun hHeld => ?_)
                clear hK K
                try simp only [Act.put, List.setIfInBounds_toArray, List.set_cons_zero, List.set_cons_succ]
                refine wpAnyH_take (i := 8) (v := ?vc_8) (by simp only [List.getElem?_toArray, List.getElem?_cons_succ, List.getElem?_cons_zero]; rfl) (by kernel_rfl) (by kernel_rfl) (by kernel_rfl) (by exact fun _ _ _ h => h) (Or.inl ⟨by rfl, ?yc_8⟩) (by assumption) ?rc_8
                case yc_8 => (intro w hSw; (try dsimp only at hSw); go_simp; (try with_reducible rfl))
                try simp only [Act.put, List.setIfInBounds_toArray, List.set_cons_zero, List.set_cons_succ]
                refine wpAnyH_take (i := 9) (v := ?vc_9) (by simp only [List.getElem?_toArray, List.getElem?_cons_succ, List.getElem?_cons_zero]; rfl) (by kernel_rfl) (by kernel_rfl) (by kernel_rfl) (by exact fun _ _ _ h => h) (Or.inl ⟨by rfl, ?yc_9⟩) (by assumption) ?rc_9
                case yc_9 => (intro w hSw; (try dsimp only at hSw); go_simp; (try with_reducible rfl))
                try simp only [Act.put, List.setIfInBounds_toArray, List.set_cons_zero, List.set_cons_succ]
                refine wpAnyH_done (by kernel_rfl) ?_ _
                show Oper.wp _ _ _ _ _ _
                go_simp
                all_goals (go_wp2_with (go_at_call 46; (with_reducible refine (growD_any u2.out.rd (q : Int) u2.out.ul u3.out).mono ?_); rintro e w8 ⟨rfl, g8, hR8⟩; have hn8 := Hid.intro (u4.out w8 g8 hR8); clear g8 hR8))
                all_goals first | omega | skip
                all_goals go_roundw
                all_goals first
                  | exact ⟨j + 1, _, _, _, _, by omega, by simp; omega, by go_num, hn8⟩
                  | (simp [intOf]; omega)
              · obtain rfl : j = n3 := by omega
                have hv4 := ndV_wd hz q 2 none
                simp only [Int.reducePow] at hv4
                obtain ⟨n4, hn4⟩ : ∃ n4 : Nat, ndV zs q 2 none = (n4 : Int) := ⟨(ndV zs q 2 none).toNat, by omega⟩
                have h42 := Hid.intro (numD2 hS.out.ru.rd)
                rw [hn4] at h42 hv4
                have hn4b : n4 ≤ 65535 := by omega
                have hSG := Hid.intro (fun (w5 : World) hg hR => SG.start (w1 := w5) hS.out (fun _ => Nat.sub_self _) hn4 hn4b hg hR)
                clear hv4 hn4 hS
                generalize ndB zs q 2 none = B5 at *
                generalize ndP zs q 2 none = P5 at *
                go_wp2_with (go_at_call 42; (with_reducible refine (h42.out).mono ?_); rintro e w9 ⟨rfl, g9, hR9⟩; have hG0 := Hid.intro (hSG.out w9 g9 hR9); clear g9 hR9 h42)
                all_goals first | omega | skip
                clear hSG c0 c1 c2 c3
                go_loopw [12] (fun v12 wr => ∃ (j : Nat) (L2 : INm) (q2 : Nat) (b : Rfu) (v2 : Value), j ≤ n4 ∧ L2.length ≤ j ∧ v12 = .int .i64 (j : Int) ∧ Hid (SG w a c zs w2.heap.size (.slice ta LT.length tc) (.slice da LD.length dc) (.slice va9 L.length vc9) LT LD L (n4 - j) L2 q2 b v2 wr)) (fun v12 _ => n4 - (intOf v12).toNat)
                case atStart => exact ⟨0, [], _, _, _, by omega, by simp, rfl, hG0⟩
                case round =>
                  obtain ⟨j, L2, q2, b, v2, hj, hLj2, rfl, hG⟩ := hrel
                  clear hG0
                  cases b with
                  | some f =>
                    obtain ⟨f1, f2⟩ := f
                    have hbad : Hid (rdBad zs = some (f1, f2)) := rdBad_ofG (hG.out.bad _ rfl)
                    have hU := Hid.intro hG.out.ru
                    clear hG
                    obtain ⟨c0, c1, c2, c3⟩ := four_readD hU.out.rd.blk
                    obtain ⟨z0, z1, z2, z3⟩ := four_read hU.out.o0
                    obtain ⟨y0, y1⟩ := two_readR hU.out.o1
                    have zf := fun j => frozen_of_row wr w.heap.size j _ 30 hU.out.o0
                    have yf := fun j => frozen_of_row wr (w.heap.size + 1) j _ 37 hU.out.o1
                    have hnz := hU.out.rd.nz _ rfl
                    simp only [bdA, bdW, Option.getD_some] at c2 c3
                    dsimp only at hnz
                    have hd2 : (f2 == 0) = false := by simpa using hnz
                    by_cases hjn : j < n4
                    · go_upto_region 33 with fail
                      all_goals first | omega | skip
                      have hUd := Hid.intro (hU.out.below (below_drew' wr))
                      obtain ⟨e1', e2', e3', e4⟩ := hUd.out.end (.slice none 0 0) (.slice none 0 0) (.slice none 0 0) (.slice none 0 0) (.int .i64 f1) (.int .i64 f2)
                      obtain ⟨r1, r2⟩ := hUd.out.mid (.slice none 0 0) (.slice none 0 0) (.slice none 0 0) (.slice none 0 0)
                      obtain ⟨_, _, d2, d3⟩ := four_readD r1.blk
                      simp only [bdA, bdW, Option.getD_some] at d2 d3
                      obtain ⟨d4, d5⟩ := two_readR r2
                      have df := fun j => frozen_of_row _ (w.heap.size + 1) j _ 37 r2
                      have e1 : Hid (((((((wr.drew.setCell ⟨w.heap.size, 0, none⟩ (.slice none 0 0)).setCell ⟨w.heap.size, 1, none⟩ (.slice none 0 0)).setCell ⟨w.heap.size, 2, none⟩ (.slice none 0 0)).setCell ⟨w.heap.size, 3, none⟩ (.slice none 0 0)).setCell ⟨w.heap.size + 1, 0, none⟩ (.int .i64 f1)).setCell ⟨w.heap.size + 1, 1, none⟩ (.int .i64 f2)).heap[w.heap.size]? = some (.cells uZ 30 (0, 0))) := e1'
                      have e2 : Hid (((((((wr.drew.setCell ⟨w.heap.size, 0, none⟩ (.slice none 0 0)).setCell ⟨w.heap.size, 1, none⟩ (.slice none 0 0)).setCell ⟨w.heap.size, 2, none⟩ (.slice none 0 0)).setCell ⟨w.heap.size, 3, none⟩ (.slice none 0 0)).setCell ⟨w.heap.size + 1, 0, none⟩ (.int .i64 f1)).setCell ⟨w.heap.size + 1, 1, none⟩ (.int .i64 f2)).heap[w.heap.size + 1]? = some (.cells #[.int .i64 f1, .int .i64 f2] 37 (0, 0))) := e2'
                      have e3 : Hid (Below w.heap.size w ((((((wr.drew.setCell ⟨w.heap.size, 0, none⟩ (.slice none 0 0)).setCell ⟨w.heap.size, 1, none⟩ (.slice none 0 0)).setCell ⟨w.heap.size, 2, none⟩ (.slice none 0 0)).setCell ⟨w.heap.size, 3, none⟩ (.slice none 0 0)).setCell ⟨w.heap.size + 1, 0, none⟩ (.int .i64 f1)).setCell ⟨w.heap.size + 1, 1, none⟩ (.int .i64 f2))) := e3'
                      clear e1' e2' e3' e4 r1 r2 hUd
                      refine wp_region_last (by kernel_rfl) 6 _ rfl rfl rfl (by kernel_rfl) (fun W => W.cell? ⟨w.heap.size + 2, 2, none⟩ = some (.int .i64 f1) ∧ W.cell? ⟨w.heap.size + 2, 3, none⟩ = some (.int .i64 f2)) ⟨c2, c3⟩ (fun hHeld => ?_)
                      simp only [List.setIfInBounds_toArray, List.set_cons_succ, List.set_cons_zero, noOp]
                      have z0' : wr.drew.cell? ⟨w.heap.size, 0, none⟩ = _ := z0
                      have z1' : wr.drew.cell? ⟨w.heap.size, 1, none⟩ = _ := z1
                      have z2' : wr.drew.cell? ⟨w.heap.size, 2, none⟩ = _ := z2
                      have z3' : wr.drew.cell? ⟨w.heap.size, 3, none⟩ = _ := z3
                      have zf' : ∀ j, wr.drew.frozen? ⟨w.heap.size, j, none⟩ = false := zf
                      generalize wr.drew = DW at *
                      refine wpAnyH_take (i := 0) (v := ?vt5_0) (by simp only [List.getElem?_toArray, List.getElem?_cons_succ, List.getElem?_cons_zero]; rfl) (by kernel_rfl) (by kernel_rfl) (by kernel_rfl) (by exact fun _ _ _ h => h) (Or.inl ⟨by rfl, ?yt5_0⟩) (by assumption) ?rt5_0
                      case yt5_0 => (intro w hSw; (try dsimp only at hSw); go_simp; (try with_reducible rfl))
                      try simp only [Act.put, List.setIfInBounds_toArray, List.set_cons_zero, List.set_cons_succ]
                      refine wpAnyH_take (i := 1) (v := ?vt5_1) (by simp only [List.getElem?_toArray, List.getElem?_cons_succ, List.getElem?_cons_zero]; rfl) (by kernel_rfl) (by kernel_rfl) (by kernel_rfl) (by exact fun _ _ _ h => h) (Or.inl ⟨by rfl, ?yt5_1⟩) (by assumption) ?rt5_1
                      case yt5_1 => (intro w hSw; (try dsimp only at hSw); go_simp; (try with_reducible rfl))
                      try simp only [Act.put, List.setIfInBounds_toArray, List.set_cons_zero, List.set_cons_succ]
                      refine wpAnyH_take (i := 2) (v := ?vt5_2) (by simp only [List.getElem?_toArray, List.getElem?_cons_succ, List.getElem?_cons_zero]; rfl) (by kernel_rfl) (by kernel_rfl) (by kernel_rfl) (by exact fun _ _ _ h => h) (Or.inl ⟨by rfl, ?yt5_2⟩) (by assumption) ?rt5_2
                      case yt5_2 => (intro w hSw; (try dsimp only at hSw); go_simp; (try with_reducible rfl))
                      try simp only [Act.put, List.setIfInBounds_toArray, List.set_cons_zero, List.set_cons_succ]
                      refine wpAnyH_take (i := 3) (v := ?vt5_3) (by simp only [List.getElem?_toArray, List.getElem?_cons_succ, List.getElem?_cons_zero]; rfl) (by kernel_rfl) (by kernel_rfl) (by kernel_rfl) (by exact fun _ _ _ h => h) (Or.inl ⟨by rfl, ?yt5_3⟩) (by assumption) ?rt5_3
                      case yt5_3 => (intro w hSw; (try dsimp only at hSw); go_simp; (try with_reducible rfl))
                      try simp only [Act.put, List.setIfInBounds_toArray, List.set_cons_zero, List.set_cons_succ]
                      refine wpAnyH_take (i := 4) (v := ?vt5_4) (by simp only [List.getElem?_toArray, List.getElem?_cons_succ, List.getElem?_cons_zero]; rfl) (by kernel_rfl) (by kernel_rfl) (by kernel_rfl) (by exact fun _ _ _ h => h) (Or.inl ⟨by rfl, ?yt5_4⟩) (by assumption) ?rt5_4
                      case yt5_4 => (intro w hSw; (try dsimp only at hSw); go_simp; (try with_reducible rfl))
                      try simp only [Act.put, List.setIfInBounds_toArray, List.set_cons_zero, List.set_cons_succ]
                      refine wpAnyH_ready (rs := [5]) (by kernel_rfl) (by simp) ?_
                      refine AllReadyH.cons (o := ?op5_5) ?hop5_5 (fun K hK => ?stp5_5) AllReadyH.nil
                      case hop5_5 => (simp only [List.getElem?_toArray, List.getElem?_cons_succ, List.getElem?_cons_zero]; rfl)
                      go_simp
                      refine hK.out _ _ ⟨d2, d3⟩ (fun hHeld => ?_)
                      clear hK K
                      try simp only [Act.put, List.setIfInBounds_toArray, List.set_cons_zero, List.set_cons_succ]
                      refine wpAnyH_take (i := 6) (v := ?vu5_6) (by simp only [List.getElem?_toArray, List.getElem?_cons_succ, List.getElem?_cons_zero]; rfl) (by kernel_rfl) (by kernel_rfl) (by kernel_rfl) (by exact fun _ _ _ h => h) (Or.inl ⟨by rfl, ?yu5_6⟩) (by assumption) ?ru5_6
                      case yu5_6 => (intro w hSw; (try dsimp only at hSw); go_simp; (try with_reducible rfl))
                      try simp only [Act.put, List.setIfInBounds_toArray, List.set_cons_zero, List.set_cons_succ]
                      refine wpAnyH_done (by kernel_rfl) ?_ _
                      show Oper.wp _ _ _ _ _ _
                      go_simp
                      all_goals (go_wp2_with fail)
                      all_goals first | omega | skip
                      generalize (((((DW.setCell ⟨w.heap.size, 0, none⟩ (.slice none 0 0)).setCell ⟨w.heap.size, 1, none⟩ (.slice none 0 0)).setCell ⟨w.heap.size, 2, none⟩ (.slice none 0 0)).setCell ⟨w.heap.size, 3, none⟩ (.slice none 0 0)).setCell ⟨w.heap.size + 1, 0, none⟩ (.int .i64 f1)).setCell ⟨w.heap.size + 1, 1, none⟩ (.int .i64 f2) = w9 at *
                      obtain ⟨m0, m1, m2, m3⟩ := four_read e1.out
                      obtain ⟨m4, m5⟩ := two_readR e2.out
                      refine bodyPost_ret (by simp [results, Tryz.results17, go_sem, m0, m1, m2, m3, m4, m5]; try rfl) rfl ?_
                      exact ⟨e3.out, .inl ⟨(f1, f2), hbad.out, rfl⟩⟩
                    · go_upto_region 33 with fail
                      all_goals first | omega | skip
                      have hUd := Hid.intro (hU.out.below (below_drew' wr))
                      obtain ⟨e1', e2', e3', e4⟩ := hUd.out.end (.slice none 0 0) (.slice none 0 0) (.slice none 0 0) (.slice none 0 0) (.int .i64 f1) (.int .i64 f2)
                      obtain ⟨r1, r2⟩ := hUd.out.mid (.slice none 0 0) (.slice none 0 0) (.slice none 0 0) (.slice none 0 0)
                      obtain ⟨_, _, d2, d3⟩ := four_readD r1.blk
                      simp only [bdA, bdW, Option.getD_some] at d2 d3
                      obtain ⟨d4, d5⟩ := two_readR r2
                      have df := fun j => frozen_of_row _ (w.heap.size + 1) j _ 37 r2
                      have e1 : Hid (((((((wr.drew.setCell ⟨w.heap.size, 0, none⟩ (.slice none 0 0)).setCell ⟨w.heap.size, 1, none⟩ (.slice none 0 0)).setCell ⟨w.heap.size, 2, none⟩ (.slice none 0 0)).setCell ⟨w.heap.size, 3, none⟩ (.slice none 0 0)).setCell ⟨w.heap.size + 1, 0, none⟩ (.int .i64 f1)).setCell ⟨w.heap.size + 1, 1, none⟩ (.int .i64 f2)).heap[w.heap.size]? = some (.cells uZ 30 (0, 0))) := e1'
                      have e2 : Hid (((((((wr.drew.setCell ⟨w.heap.size, 0, none⟩ (.slice none 0 0)).setCell ⟨w.heap.size, 1, none⟩ (.slice none 0 0)).setCell ⟨w.heap.size, 2, none⟩ (.slice none 0 0)).setCell ⟨w.heap.size, 3, none⟩ (.slice none 0 0)).setCell ⟨w.heap.size + 1, 0, none⟩ (.int .i64 f1)).setCell ⟨w.heap.size + 1, 1, none⟩ (.int .i64 f2)).heap[w.heap.size + 1]? = some (.cells #[.int .i64 f1, .int .i64 f2] 37 (0, 0))) := e2'
                      have e3 : Hid (Below w.heap.size w ((((((wr.drew.setCell ⟨w.heap.size, 0, none⟩ (.slice none 0 0)).setCell ⟨w.heap.size, 1, none⟩ (.slice none 0 0)).setCell ⟨w.heap.size, 2, none⟩ (.slice none 0 0)).setCell ⟨w.heap.size, 3, none⟩ (.slice none 0 0)).setCell ⟨w.heap.size + 1, 0, none⟩ (.int .i64 f1)).setCell ⟨w.heap.size + 1, 1, none⟩ (.int .i64 f2))) := e3'
                      clear e1' e2' e3' e4 r1 r2 hUd
                      refine wp_region_last (by kernel_rfl) 6 _ rfl rfl rfl (by kernel_rfl) (fun W => W.cell? ⟨w.heap.size + 2, 2, none⟩ = some (.int .i64 f1) ∧ W.cell? ⟨w.heap.size + 2, 3, none⟩ = some (.int .i64 f2)) ⟨c2, c3⟩ (fun hHeld => ?_)
                      simp only [List.setIfInBounds_toArray, List.set_cons_succ, List.set_cons_zero, noOp]
                      have z0' : wr.drew.cell? ⟨w.heap.size, 0, none⟩ = _ := z0
                      have z1' : wr.drew.cell? ⟨w.heap.size, 1, none⟩ = _ := z1
                      have z2' : wr.drew.cell? ⟨w.heap.size, 2, none⟩ = _ := z2
                      have z3' : wr.drew.cell? ⟨w.heap.size, 3, none⟩ = _ := z3
                      have zf' : ∀ j, wr.drew.frozen? ⟨w.heap.size, j, none⟩ = false := zf
                      generalize wr.drew = DW at *
                      refine wpAnyH_take (i := 0) (v := ?vt6_0) (by simp only [List.getElem?_toArray, List.getElem?_cons_succ, List.getElem?_cons_zero]; rfl) (by kernel_rfl) (by kernel_rfl) (by kernel_rfl) (by exact fun _ _ _ h => h) (Or.inl ⟨by rfl, ?yt6_0⟩) (by assumption) ?rt6_0
                      case yt6_0 => (intro w hSw; (try dsimp only at hSw); go_simp; (try with_reducible rfl))
                      try simp only [Act.put, List.setIfInBounds_toArray, List.set_cons_zero, List.set_cons_succ]
                      refine wpAnyH_take (i := 1) (v := ?vt6_1) (by simp only [List.getElem?_toArray, List.getElem?_cons_succ, List.getElem?_cons_zero]; rfl) (by kernel_rfl) (by kernel_rfl) (by kernel_rfl) (by exact fun _ _ _ h => h) (Or.inl ⟨by rfl, ?yt6_1⟩) (by assumption) ?rt6_1
                      case yt6_1 => (intro w hSw; (try dsimp only at hSw); go_simp; (try with_reducible rfl))
                      try simp only [Act.put, List.setIfInBounds_toArray, List.set_cons_zero, List.set_cons_succ]
                      refine wpAnyH_take (i := 2) (v := ?vt6_2) (by simp only [List.getElem?_toArray, List.getElem?_cons_succ, List.getElem?_cons_zero]; rfl) (by kernel_rfl) (by kernel_rfl) (by kernel_rfl) (by exact fun _ _ _ h => h) (Or.inl ⟨by rfl, ?yt6_2⟩) (by assumption) ?rt6_2
                      case yt6_2 => (intro w hSw; (try dsimp only at hSw); go_simp; (try with_reducible rfl))
                      try simp only [Act.put, List.setIfInBounds_toArray, List.set_cons_zero, List.set_cons_succ]
                      refine wpAnyH_take (i := 3) (v := ?vt6_3) (by simp only [List.getElem?_toArray, List.getElem?_cons_succ, List.getElem?_cons_zero]; rfl) (by kernel_rfl) (by kernel_rfl) (by kernel_rfl) (by exact fun _ _ _ h => h) (Or.inl ⟨by rfl, ?yt6_3⟩) (by assumption) ?rt6_3
                      case yt6_3 => (intro w hSw; (try dsimp only at hSw); go_simp; (try with_reducible rfl))
                      try simp only [Act.put, List.setIfInBounds_toArray, List.set_cons_zero, List.set_cons_succ]
                      refine wpAnyH_take (i := 4) (v := ?vt6_4) (by simp only [List.getElem?_toArray, List.getElem?_cons_succ, List.getElem?_cons_zero]; rfl) (by kernel_rfl) (by kernel_rfl) (by kernel_rfl) (by exact fun _ _ _ h => h) (Or.inl ⟨by rfl, ?yt6_4⟩) (by assumption) ?rt6_4
                      case yt6_4 => (intro w hSw; (try dsimp only at hSw); go_simp; (try with_reducible rfl))
                      try simp only [Act.put, List.setIfInBounds_toArray, List.set_cons_zero, List.set_cons_succ]
                      refine wpAnyH_ready (rs := [5]) (by kernel_rfl) (by simp) ?_
                      refine AllReadyH.cons (o := ?op6_5) ?hop6_5 (fun K hK => ?stp6_5) AllReadyH.nil
                      case hop6_5 => (simp only [List.getElem?_toArray, List.getElem?_cons_succ, List.getElem?_cons_zero]; rfl)
                      go_simp
                      refine hK.out _ _ ⟨d2, d3⟩ (fun hHeld => ?_)
                      clear hK K
                      try simp only [Act.put, List.setIfInBounds_toArray, List.set_cons_zero, List.set_cons_succ]
                      refine wpAnyH_take (i := 6) (v := ?vu6_6) (by simp only [List.getElem?_toArray, List.getElem?_cons_succ, List.getElem?_cons_zero]; rfl) (by kernel_rfl) (by kernel_rfl) (by kernel_rfl) (by exact fun _ _ _ h => h) (Or.inl ⟨by rfl, ?yu6_6⟩) (by assumption) ?ru6_6
                      case yu6_6 => (intro w hSw; (try dsimp only at hSw); go_simp; (try with_reducible rfl))
                      try simp only [Act.put, List.setIfInBounds_toArray, List.set_cons_zero, List.set_cons_succ]
                      refine wpAnyH_done (by kernel_rfl) ?_ _
                      show Oper.wp _ _ _ _ _ _
                      go_simp
                      all_goals (go_wp2_with fail)
                      all_goals first | omega | skip
                      generalize (((((DW.setCell ⟨w.heap.size, 0, none⟩ (.slice none 0 0)).setCell ⟨w.heap.size, 1, none⟩ (.slice none 0 0)).setCell ⟨w.heap.size, 2, none⟩ (.slice none 0 0)).setCell ⟨w.heap.size, 3, none⟩ (.slice none 0 0)).setCell ⟨w.heap.size + 1, 0, none⟩ (.int .i64 f1)).setCell ⟨w.heap.size + 1, 1, none⟩ (.int .i64 f2) = w9 at *
                      obtain ⟨m0, m1, m2, m3⟩ := four_read e1.out
                      obtain ⟨m4, m5⟩ := two_readR e2.out
                      refine bodyPost_ret (by simp [results, Tryz.results17, go_sem, m0, m1, m2, m3, m4, m5]; try rfl) rfl ?_
                      exact ⟨e3.out, .inl ⟨(f1, f2), hbad.out, rfl⟩⟩
                  | none =>
                    obtain ⟨c0, c1, c2, c3⟩ := four_readD hG.out.ru.rd.blk
                    simp only [bdA, bdW, Option.getD_none] at c2 c3
                    obtain ⟨va8, vc8, rfl⟩ := own_slice hG.out.ru.ul.g
                    by_cases hjn : j < n4
                    · obtain ⟨l8, hl8⟩ : ∃ l8, l8 = L2.length := ⟨_, rfl⟩
                      have hk : n4 - j = (n4 - (j + 1)) + 1 := by omega
                      have hSk := hG.out
                      rw [hk] at hSk
                      have x0 := hSk.ru.box
                      rw [← hl8] at x0
                      have h44 : Hid (∀ n, Calls Tryz.prog 44 #[.pointer (some ⟨w.heap.size + 2, 0, none⟩)] (wr.drewN n) fun e w' => e = .returned (.string (str (txL zs q2))) ∧ wr.grownBy w' (some (w.heap.size + 2)) ∧ RD w' (w.heap.size + 2) a c zs (txP zs q2) (txB zs q2 none)) := fun n => by
                        refine (textD_is (hSk.ru.rd.below (below_drewN (Below.refl wr.heap.size wr) n))).mono ?_
                        rintro e w' ⟨h1, h2, h3⟩
                        rw [tdB_eq hz hSk.ru.rd.at_] at h3
                        rw [show tdS zs q2 none = str (txL zs q2) from (str_txL zs q2).symm] at h1
                        exact ⟨h1, ⟨h2.os, h2.tape, h2.output, h2.size, h2.block⟩, h3⟩
                      have hx : Hid (∀ wa, wr.grownBy wa (some (w.heap.size + 2)) → wa.heap[w2.heap.size]? = some (.cells #[.slice ta LT.length tc, .slice da LD.length dc, .slice va9 L.length vc9, .slice va8 l8 vc8] 30 (0, 0)) ∧ ∀ o, (wa.alloc o).ownsRow (w.heap.size + 2 + 1) 9 1 (.slice va8 l8 vc8) l8 (rowSt L2) ∧ w.heap.size + 2 + 1 ≤ (wa.alloc o).heap.size) := fun wa hg => by
                        have hh := hSk.ru.lt
                        have h1 := (hg.block _ (blk_lt x0) (fun e => by have := Option.some.inj e; omega)).trans x0
                        refine ⟨h1, fun o => ?_⟩
                        have h2 := own_keptB (own_low hSk.ru.ul.g hg (Nat.lt_succ_self _)) (below_alloc wa o)
                        rw [← hl8] at h2
                        exact ⟨h2, by have := blk_lt h1; simp; omega⟩
                      have hnx : Hid (∀ w6 o v' w7, wr.grownBy w6 (some (w.heap.size + 2)) → RD w6 (w.heap.size + 2) a c zs (txP zs q2) (txB zs q2 none) → w7.ownsRow (w.heap.size + 2 + 1) 9 1 v' (l8 + 1) (rowSt L2 ++ [.string (str (txL zs q2))]) → (w6.alloc o).grownBy w7 (Value.slice va8 l8 vc8).ownBlock → _) := fun w6 o v' w7 h1 h3 h5 h6 => by
                        rw [hl8] at h5 h6
                        exact hSk.next h1 h3 o h5 h6
                      rw [← hl8] at hnx
                      obtain ⟨t0, t1, t2, t3⟩ := four_read x0
                      have hl10 : l8 ≤ 65535 := by omega
                      generalize glB (txL zs q2) (lastOf [] L2) (nmTD LT LD ++ L.map (·.1.1)) q2 (txB zs q2 none) = B9 at *
                      generalize txP zs q2 = P9 at *
                      generalize txB zs q2 none = D9 at *
                      generalize hsn : txL zs q2 = sN at *
                      generalize rowSt L2 = RL at *
                      clear hG hSk hk hl8 hsn x0
                      go_upto_region 28 with fail
                      all_goals first | omega | skip
                      refine wp_region_last (by kernel_rfl) 7 _ rfl rfl rfl (by kernel_rfl) (fun W => W.cell? ⟨w2.heap.size, 3, none⟩ = some (.slice va8 l8 vc8)) t3 (fun hHeld => ?_)
                      simp only [List.setIfInBounds_toArray, List.set_cons_succ, List.set_cons_zero, noOp]
                      refine wpAnyH_take (i := 0) (v := ?va7_0) (by simp only [List.getElem?_toArray, List.getElem?_cons_succ, List.getElem?_cons_zero]; rfl) (by kernel_rfl) (by kernel_rfl) (by kernel_rfl) (by exact fun _ _ _ h => h) (Or.inl ⟨by rfl, ?ya7_0⟩) (by assumption) ?ra7_0
                      case ya7_0 => (intro w hSw; (try dsimp only at hSw); go_simp; (try with_reducible rfl))
                      try simp only [Act.put, List.setIfInBounds_toArray, List.set_cons_zero, List.set_cons_succ]
                      refine wpAnyH_take (i := 1) (v := ?va7_1) (by simp only [List.getElem?_toArray, List.getElem?_cons_succ, List.getElem?_cons_zero]; rfl) (by kernel_rfl) (by kernel_rfl) (by kernel_rfl) (by exact fun _ _ _ h => h) (Or.inl ⟨by rfl, ?ya7_1⟩) (by assumption) ?ra7_1
                      case ya7_1 => (intro w hSw; (try dsimp only at hSw); go_simp; (try with_reducible rfl))
                      try simp only [Act.put, List.setIfInBounds_toArray, List.set_cons_zero, List.set_cons_succ]
                      refine wpAnyH_take (i := 2) (v := ?va7_2) (by simp only [List.getElem?_toArray, List.getElem?_cons_succ, List.getElem?_cons_zero]; rfl) (by kernel_rfl) (by kernel_rfl) (by kernel_rfl) (by exact fun _ _ _ h => h) (Or.inl ⟨by rfl, ?ya7_2⟩) (by assumption) ?ra7_2
                      case ya7_2 => (intro w hSw; (try dsimp only at hSw); go_simp; (try with_reducible rfl))
                      try simp only [Act.put, List.setIfInBounds_toArray, List.set_cons_zero, List.set_cons_succ]
                      refine wpAnyH_ready (rs := [3]) (by kernel_rfl) (by simp) ?_
                      refine AllReadyH.cons (o := ?op7_3) ?hop7_3 (fun K hK => ?stp7_3) AllReadyH.nil
                      case hop7_3 => (simp only [List.getElem?_toArray, List.getElem?_cons_succ, List.getElem?_cons_zero]; rfl)
                      refine step_fnA Tryz.prog _ rfl 44 _ _ rfl #[.pointer (some ⟨w.heap.size + 2, 0, none⟩)] (by simp [Act.eval]) _ rfl f44_name f44_body ?_
                      refine (h44.out 1).mono ?_
                      rintro e w6 ⟨rfl, g6, hR6⟩
                      obtain ⟨z6, z6b⟩ := hx.out w6 g6
                      have z6a := (four_read (keepB z6 (.cells #[.string (str sN)] 9))).2.2.2
                      replace z6b := Hid.intro z6b
                      replace g6 := Hid.intro g6
                      replace hR6 := Hid.intro hR6
                      refine ⟨_, rfl, hK.out _ _ (four_read z6).2.2.2 (fun hHeld => ?_)⟩
                      clear hK K z6
                      try simp only [Act.put, List.setIfInBounds_toArray, List.set_cons_zero, List.set_cons_succ]
                      refine wpAnyH_ready (rs := [4]) (by kernel_rfl) (by simp) ?_
                      refine AllReadyH.cons (o := ?op7_4) ?hop7_4 (fun K hK => ?stp7_4) AllReadyH.nil
                      case hop7_4 => (simp only [List.getElem?_toArray, List.getElem?_cons_succ, List.getElem?_cons_zero]; rfl)
                      go_simp
                      refine hK.out _ _ z6a (fun hHeld => ?_)
                      clear hK K
                      try simp only [Act.put, List.setIfInBounds_toArray, List.set_cons_zero, List.set_cons_succ]
                      refine wpAnyH_ready (rs := [5]) (by kernel_rfl) (by simp) ?_
                      refine AllReadyH.cons (o := ?op7_5) ?hop7_5 (fun K hK => ?stp7_5) AllReadyH.nil
                      case hop7_5 => (simp only [List.getElem?_toArray, List.getElem?_cons_succ, List.getElem?_cons_zero]; rfl)
                      refine step_app _ rfl (.tmp 121) (.tmp 124) 28 rfl (w.heap.size + 2 + 1) 9 i9 _ 1 16 Tryz.underlying28 hi9 hq0 hq1 hq2 rfl (by decide) (.slice va8 l8 vc8) l8 RL rfl (z6b.out _).1 (.slice (some ⟨w6.heap.size, 0, none⟩) 1 1) 1 [.string (str sN)] rfl (.inr ⟨_, _, rfl, cells_new w6 #[.string (str sN)] 9⟩) rfl (by simp [Value.oneCell']) (by unfold maxLen; omega) (by omega) (z6b.out _).2 ?_
                      intro v7 w7 ho7 hg7 hw7
                      obtain ⟨a7, c7, rfl⟩ := own_slice ho7
                      obtain ⟨u1, u2, u3, u4⟩ := hnx.out w6 _ _ w7 g6.out hR6.out ho7 hg7
                      have uf := frozen_of_row w7 w2.heap.size 3 _ 30 u1
                      have u5 := (four_read u1).2.2.2
                      obtain ⟨s0, s1, s2, s3⟩ := four_read u2.box
                      replace u2 := Hid.intro u2
                      replace u3 := Hid.intro u3
                      replace u4 := Hid.intro u4
                      clear ho7 hg7 hw7
                      refine hK.out _ _ u5 (fun hHeld => ?_)
                      clear hK K
                      try simp only [Act.put, List.setIfInBounds_toArray, List.set_cons_zero, List.set_cons_succ]
                      refine wpAnyH_take (i := 6) (v := ?vc7_6) (by simp only [List.getElem?_toArray, List.getElem?_cons_succ, List.getElem?_cons_zero]; rfl) (by kernel_rfl) (by kernel_rfl) (by kernel_rfl) (by exact fun _ _ _ h => h) (Or.inl ⟨by rfl, ?yc7_6⟩) (by assumption) ?rc7_6
                      case yc7_6 => (intro w hSw; (try dsimp only at hSw); go_simp; (try with_reducible rfl))
                      try simp only [Act.put, List.setIfInBounds_toArray, List.set_cons_zero, List.set_cons_succ]
                      refine wpAnyH_take (i := 7) (v := ?vc7_7) (by simp only [List.getElem?_toArray, List.getElem?_cons_succ, List.getElem?_cons_zero]; rfl) (by kernel_rfl) (by kernel_rfl) (by kernel_rfl) (by exact fun _ _ _ h => h) (Or.inl ⟨by rfl, ?yc7_7⟩) (by assumption) ?rc7_7
                      case yc7_7 => (intro w hSw; (try dsimp only at hSw); go_simp; (try with_reducible rfl))
                      try simp only [Act.put, List.setIfInBounds_toArray, List.set_cons_zero, List.set_cons_succ]
                      refine wpAnyH_done (by kernel_rfl) ?_ _
                      show Oper.wp _ _ _ _ _ _
                      go_simp
                      all_goals (go_wp2_with (go_at_call 46; (with_reducible refine (growD_any u2.out.rd (q2 : Int) u2.out.ul u3.out).mono ?_); rintro e w8 ⟨rfl, g8, hR8⟩; have hn8 := Hid.intro (u4.out w8 g8 hR8); clear g8 hR8))
                      all_goals first | omega | skip
                      all_goals go_roundw
                      all_goals first
                        | exact ⟨j + 1, _, _, _, _, by omega, by simp; omega, by go_num, hn8⟩
                        | (simp [intOf]; omega)
                    · obtain rfl : j = n4 := by omega
                      have hend := Hid.intro (SG.end hG.out (Nat.sub_self _))
                      have hU := Hid.intro hG.out.ru
                      clear hG
                      by_cases hp : q2 < n0
                      · have hbad : Hid (rdBad zs = some ((q2 : Int), (14 : Int))) := by show _ = _; rw [hend.out.1, if_pos (by rw [← hN.out]; exact hp)]
                        have hp2 : (q2 : Int) < (n0 : Int) := by omega
                        have h43 := Hid.intro (refuseD_is hU.out.rd (q2 : Int) 14 (by decide))
                        have hn9 : Hid (∀ w9, wr.grownBy w9 (some (w.heap.size + 2)) → RD w9 (w.heap.size + 2) a c zs q2 (firstR none ((q2 : Int), 14)) → RU w a c zs w2.heap.size (.slice ta LT.length tc) (.slice da LD.length dc) (.slice va9 L.length vc9) (.slice va8 L2.length vc8) LT LD L L2 q2 (some ((q2 : Int), (14 : Int))) w9) := fun w9 h1 h2 => hU.out.num h1 h2
                        clear hend hU
                        go_upto_region 32 with (go_at_call 43; (with_reducible refine (h43.out).mono ?_); rintro e w9 ⟨rfl, g9, hR9⟩; have hU := Hid.intro (hn9.out w9 g9 hR9); clear g9 hR9 h43 hn9)
                        all_goals first | omega | skip
                        clear c0 c1 c2 c3
                        obtain ⟨c0, c1, c2, c3⟩ := four_readD hU.out.rd.blk
                        simp only [bdA, bdW, Option.getD_some] at c2 c3
                        obtain ⟨z0, z1, z2, z3⟩ := four_read hU.out.o0
                        obtain ⟨y0, y1⟩ := two_readR hU.out.o1
                        have zf := fun j => frozen_of_row w9 w.heap.size j _ 30 hU.out.o0
                        have yf := fun j => frozen_of_row w9 (w.heap.size + 1) j _ 37 hU.out.o1
                        go_upto_region 33 with fail
                        all_goals first | omega | skip
                        have hUd := Hid.intro (hU.out.below (below_drew' w9))
                        obtain ⟨e1', e2', e3', e4⟩ := hUd.out.end (.slice none 0 0) (.slice none 0 0) (.slice none 0 0) (.slice none 0 0) (.int .i64 (q2 : Int)) (.int .i64 14)
                        obtain ⟨r1, r2⟩ := hUd.out.mid (.slice none 0 0) (.slice none 0 0) (.slice none 0 0) (.slice none 0 0)
                        obtain ⟨_, _, d2, d3⟩ := four_readD r1.blk
                        simp only [bdA, bdW, Option.getD_some] at d2 d3
                        obtain ⟨d4, d5⟩ := two_readR r2
                        have df := fun j => frozen_of_row _ (w.heap.size + 1) j _ 37 r2
                        have e1 : Hid (((((((w9.drew.setCell ⟨w.heap.size, 0, none⟩ (.slice none 0 0)).setCell ⟨w.heap.size, 1, none⟩ (.slice none 0 0)).setCell ⟨w.heap.size, 2, none⟩ (.slice none 0 0)).setCell ⟨w.heap.size, 3, none⟩ (.slice none 0 0)).setCell ⟨w.heap.size + 1, 0, none⟩ (.int .i64 (q2 : Int))).setCell ⟨w.heap.size + 1, 1, none⟩ (.int .i64 14)).heap[w.heap.size]? = some (.cells uZ 30 (0, 0))) := e1'
                        have e2 : Hid (((((((w9.drew.setCell ⟨w.heap.size, 0, none⟩ (.slice none 0 0)).setCell ⟨w.heap.size, 1, none⟩ (.slice none 0 0)).setCell ⟨w.heap.size, 2, none⟩ (.slice none 0 0)).setCell ⟨w.heap.size, 3, none⟩ (.slice none 0 0)).setCell ⟨w.heap.size + 1, 0, none⟩ (.int .i64 (q2 : Int))).setCell ⟨w.heap.size + 1, 1, none⟩ (.int .i64 14)).heap[w.heap.size + 1]? = some (.cells #[.int .i64 (q2 : Int), .int .i64 14] 37 (0, 0))) := e2'
                        have e3 : Hid (Below w.heap.size w ((((((w9.drew.setCell ⟨w.heap.size, 0, none⟩ (.slice none 0 0)).setCell ⟨w.heap.size, 1, none⟩ (.slice none 0 0)).setCell ⟨w.heap.size, 2, none⟩ (.slice none 0 0)).setCell ⟨w.heap.size, 3, none⟩ (.slice none 0 0)).setCell ⟨w.heap.size + 1, 0, none⟩ (.int .i64 (q2 : Int))).setCell ⟨w.heap.size + 1, 1, none⟩ (.int .i64 14))) := e3'
                        clear e1' e2' e3' e4 r1 r2 hUd
                        refine wp_region_last (by kernel_rfl) 6 _ rfl rfl rfl (by kernel_rfl) (fun W => W.cell? ⟨w.heap.size + 2, 2, none⟩ = some (.int .i64 (q2 : Int)) ∧ W.cell? ⟨w.heap.size + 2, 3, none⟩ = some (.int .i64 14)) ⟨c2, c3⟩ (fun hHeld => ?_)
                        simp only [List.setIfInBounds_toArray, List.set_cons_succ, List.set_cons_zero, noOp]
                        have z0' : w9.drew.cell? ⟨w.heap.size, 0, none⟩ = _ := z0
                        have z1' : w9.drew.cell? ⟨w.heap.size, 1, none⟩ = _ := z1
                        have z2' : w9.drew.cell? ⟨w.heap.size, 2, none⟩ = _ := z2
                        have z3' : w9.drew.cell? ⟨w.heap.size, 3, none⟩ = _ := z3
                        have zf' : ∀ j, w9.drew.frozen? ⟨w.heap.size, j, none⟩ = false := zf
                        generalize w9.drew = DW at *
                        refine wpAnyH_take (i := 0) (v := ?vt8_0) (by simp only [List.getElem?_toArray, List.getElem?_cons_succ, List.getElem?_cons_zero]; rfl) (by kernel_rfl) (by kernel_rfl) (by kernel_rfl) (by exact fun _ _ _ h => h) (Or.inl ⟨by rfl, ?yt8_0⟩) (by assumption) ?rt8_0
                        case yt8_0 => (intro w hSw; (try dsimp only at hSw); go_simp; (try with_reducible rfl))
                        try simp only [Act.put, List.setIfInBounds_toArray, List.set_cons_zero, List.set_cons_succ]
                        refine wpAnyH_take (i := 1) (v := ?vt8_1) (by simp only [List.getElem?_toArray, List.getElem?_cons_succ, List.getElem?_cons_zero]; rfl) (by kernel_rfl) (by kernel_rfl) (by kernel_rfl) (by exact fun _ _ _ h => h) (Or.inl ⟨by rfl, ?yt8_1⟩) (by assumption) ?rt8_1
                        case yt8_1 => (intro w hSw; (try dsimp only at hSw); go_simp; (try with_reducible rfl))
                        try simp only [Act.put, List.setIfInBounds_toArray, List.set_cons_zero, List.set_cons_succ]
                        refine wpAnyH_take (i := 2) (v := ?vt8_2) (by simp only [List.getElem?_toArray, List.getElem?_cons_succ, List.getElem?_cons_zero]; rfl) (by kernel_rfl) (by kernel_rfl) (by kernel_rfl) (by exact fun _ _ _ h => h) (Or.inl ⟨by rfl, ?yt8_2⟩) (by assumption) ?rt8_2
                        case yt8_2 => (intro w hSw; (try dsimp only at hSw); go_simp; (try with_reducible rfl))
                        try simp only [Act.put, List.setIfInBounds_toArray, List.set_cons_zero, List.set_cons_succ]
                        refine wpAnyH_take (i := 3) (v := ?vt8_3) (by simp only [List.getElem?_toArray, List.getElem?_cons_succ, List.getElem?_cons_zero]; rfl) (by kernel_rfl) (by kernel_rfl) (by kernel_rfl) (by exact fun _ _ _ h => h) (Or.inl ⟨by rfl, ?yt8_3⟩) (by assumption) ?rt8_3
                        case yt8_3 => (intro w hSw; (try dsimp only at hSw); go_simp; (try with_reducible rfl))
                        try simp only [Act.put, List.setIfInBounds_toArray, List.set_cons_zero, List.set_cons_succ]
                        refine wpAnyH_take (i := 4) (v := ?vt8_4) (by simp only [List.getElem?_toArray, List.getElem?_cons_succ, List.getElem?_cons_zero]; rfl) (by kernel_rfl) (by kernel_rfl) (by kernel_rfl) (by exact fun _ _ _ h => h) (Or.inl ⟨by rfl, ?yt8_4⟩) (by assumption) ?rt8_4
                        case yt8_4 => (intro w hSw; (try dsimp only at hSw); go_simp; (try with_reducible rfl))
                        try simp only [Act.put, List.setIfInBounds_toArray, List.set_cons_zero, List.set_cons_succ]
                        refine wpAnyH_ready (rs := [5]) (by kernel_rfl) (by simp) ?_
                        refine AllReadyH.cons (o := ?op8_5) ?hop8_5 (fun K hK => ?stp8_5) AllReadyH.nil
                        case hop8_5 => (simp only [List.getElem?_toArray, List.getElem?_cons_succ, List.getElem?_cons_zero]; rfl)
                        go_simp
                        refine hK.out _ _ ⟨d2, d3⟩ (fun hHeld => ?_)
                        clear hK K
                        try simp only [Act.put, List.setIfInBounds_toArray, List.set_cons_zero, List.set_cons_succ]
                        refine wpAnyH_take (i := 6) (v := ?vu8_6) (by simp only [List.getElem?_toArray, List.getElem?_cons_succ, List.getElem?_cons_zero]; rfl) (by kernel_rfl) (by kernel_rfl) (by kernel_rfl) (by exact fun _ _ _ h => h) (Or.inl ⟨by rfl, ?yu8_6⟩) (by assumption) ?ru8_6
                        case yu8_6 => (intro w hSw; (try dsimp only at hSw); go_simp; (try with_reducible rfl))
                        try simp only [Act.put, List.setIfInBounds_toArray, List.set_cons_zero, List.set_cons_succ]
                        refine wpAnyH_done (by kernel_rfl) ?_ _
                        show Oper.wp _ _ _ _ _ _
                        go_simp
                        all_goals (go_wp2_with fail)
                        all_goals first | omega | skip
                        generalize (((((DW.setCell ⟨w.heap.size, 0, none⟩ (.slice none 0 0)).setCell ⟨w.heap.size, 1, none⟩ (.slice none 0 0)).setCell ⟨w.heap.size, 2, none⟩ (.slice none 0 0)).setCell ⟨w.heap.size, 3, none⟩ (.slice none 0 0)).setCell ⟨w.heap.size + 1, 0, none⟩ (.int .i64 (q2 : Int))).setCell ⟨w.heap.size + 1, 1, none⟩ (.int .i64 14) = w9 at *
                        obtain ⟨m0, m1, m2, m3⟩ := four_read e1.out
                        obtain ⟨m4, m5⟩ := two_readR e2.out
                        refine bodyPost_ret (by simp [results, Tryz.results17, go_sem, m0, m1, m2, m3, m4, m5]; try rfl) rfl ?_
                        exact ⟨e3.out, .inl ⟨((q2 : Int), 14), hbad.out, rfl⟩⟩
                      · have hnone : Hid (rdBad zs = none) := by show _ = _; rw [hend.out.1, if_neg (by rw [← hN.out]; exact hp)]
                        have hp2 : ¬ (q2 : Int) < (n0 : Int) := by omega
                        have heq : Hid (uOf LT LD L L2 = rdU zs) := hend.out.2
                        obtain ⟨t0, t1, t2, t3⟩ := four_read hU.out.box
                        obtain ⟨z0, z1, z2, z3⟩ := four_read hU.out.o0
                        obtain ⟨y0, y1⟩ := two_readR hU.out.o1
                        have zf := fun j => frozen_of_row wr w.heap.size j _ 30 hU.out.o0
                        have yf := fun j => frozen_of_row wr (w.heap.size + 1) j _ 37 hU.out.o1
                        obtain ⟨e1', e2', e3', e4'⟩ := hU.out.end (.slice ta LT.length tc) (.slice da LD.length dc) (.slice va9 L.length vc9) (.slice va8 L2.length vc8) (.int .i64 0) (.int .i64 0)
                        have e1 : Hid (((((((wr.setCell ⟨w.heap.size, 0, none⟩ (.slice ta LT.length tc)).setCell ⟨w.heap.size, 1, none⟩ (.slice da LD.length dc)).setCell ⟨w.heap.size, 2, none⟩ (.slice va9 L.length vc9)).setCell ⟨w.heap.size, 3, none⟩ (.slice va8 L2.length vc8)).setCell ⟨w.heap.size + 1, 0, none⟩ (.int .i64 0)).setCell ⟨w.heap.size + 1, 1, none⟩ (.int .i64 0)).heap[w.heap.size]? = some (.cells #[(.slice ta LT.length tc), (.slice da LD.length dc), (.slice va9 L.length vc9), .slice va8 L2.length vc8] 30 (0, 0))) := e1'
                        have e2 : Hid (((((((wr.setCell ⟨w.heap.size, 0, none⟩ (.slice ta LT.length tc)).setCell ⟨w.heap.size, 1, none⟩ (.slice da LD.length dc)).setCell ⟨w.heap.size, 2, none⟩ (.slice va9 L.length vc9)).setCell ⟨w.heap.size, 3, none⟩ (.slice va8 L2.length vc8)).setCell ⟨w.heap.size + 1, 0, none⟩ (.int .i64 0)).setCell ⟨w.heap.size + 1, 1, none⟩ (.int .i64 0)).heap[w.heap.size + 1]? = some (.cells refZ 37 (0, 0))) := e2'
                        have e3 : Hid (Below w.heap.size w ((((((wr.setCell ⟨w.heap.size, 0, none⟩ (.slice ta LT.length tc)).setCell ⟨w.heap.size, 1, none⟩ (.slice da LD.length dc)).setCell ⟨w.heap.size, 2, none⟩ (.slice va9 L.length vc9)).setCell ⟨w.heap.size, 3, none⟩ (.slice va8 L2.length vc8)).setCell ⟨w.heap.size + 1, 0, none⟩ (.int .i64 0)).setCell ⟨w.heap.size + 1, 1, none⟩ (.int .i64 0))) := e3'
                        have e4 : Hid (UL w.heap.size ((((((wr.setCell ⟨w.heap.size, 0, none⟩ (.slice ta LT.length tc)).setCell ⟨w.heap.size, 1, none⟩ (.slice da LD.length dc)).setCell ⟨w.heap.size, 2, none⟩ (.slice va9 L.length vc9)).setCell ⟨w.heap.size, 3, none⟩ (.slice va8 L2.length vc8)).setCell ⟨w.heap.size + 1, 0, none⟩ (.int .i64 0)).setCell ⟨w.heap.size + 1, 1, none⟩ (.int .i64 0)) (.slice ta LT.length tc) (.slice da LD.length dc) (.slice va9 L.length vc9) (.slice va8 L2.length vc8) LT LD L L2) := e4'
                        clear e1' e2' e3' e4' hend hU
                        go_wp2_with fail
                        all_goals first | omega | skip
                        generalize (((((wr.setCell ⟨w.heap.size, 0, none⟩ (.slice ta LT.length tc)).setCell ⟨w.heap.size, 1, none⟩ (.slice da LD.length dc)).setCell ⟨w.heap.size, 2, none⟩ (.slice va9 L.length vc9)).setCell ⟨w.heap.size, 3, none⟩ (.slice va8 L2.length vc8)).setCell ⟨w.heap.size + 1, 0, none⟩ (.int .i64 0)).setCell ⟨w.heap.size + 1, 1, none⟩ (.int .i64 0) = w9 at *
                        obtain ⟨m0, m1, m2, m3⟩ := four_read e1.out
                        obtain ⟨m4, m5⟩ := two_readR e2.out
                        refine bodyPost_ret (by simp [results, Tryz.results17, go_sem, m0, m1, m2, m3, m4, m5]; try rfl) rfl ?_
                        exact ⟨e3.out, .inr ⟨hnone.out, _, _, _, _, _, _, _, _, rfl, e4.out, heq.out⟩⟩
end
end Go.Proofs.YtmndccbeddaphaaGreatDoor
