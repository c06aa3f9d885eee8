/- ExprValues: the walk where there are values. -/
import Derived.Test.YtijdjljnppkhmaaDoorValW0
import Derived.Test.YtijdjljnppkhmaaDoorQuietB
import Derived.Test.YtijdjljnppkhmaaDoorNumbersW
import Derived.Test.YtijdjljnppkhmaaDoorLinF
import Derived.Test.YtijdjljnppkhmaaDoorValWb
import Derived.Deep.RegionWith
import Derived.Deep.RegionHeld3
import Derived.Deep.RegionLaw
import Derived.Deep.AppendLies
import Derived.Deep.DeepCutAuto
import Derived.BigRegion
namespace Go.Proofs.YtijdjljnppkhmaaDoor
open Go.ChangeShapes Go.WideShapes Go.ChangeAt Go.RowKit Go.WideMaps Go.Maps
set_option linter.unusedVariables false
set_option maxRecDepth 100000

set_option maxHeartbeats 8000000 in
theorem values_full (a1 a2 a3 : Option Addr) (c1 c2 c3 : Nat) (xs ys : List Tm) (vs : List Int) (k1 k2 n : Int) (w : World) (h1 : Held w a1 c1 xs) (h2 : Held w a2 c2 ys) (h3 : IntLies w a3 vs) (hP : Pow w)
    (hl1 : xs.length ≤ 1100000) (hl2 : ys.length ≤ 1100000) (hl3 : vs.length ≤ 1100000) (hn1 : ∀ t ∈ xs, t.name.length ≤ 1100000) (hn2 : ∀ t ∈ ys, t.name.length ≤ 1100000) (hk1 : 0 ≤ k1 ∧ k1 < 4294967296) (hk2 : 0 ≤ k2 ∧ k2 < 4294967296) (hvs : ∀ v ∈ vs, 0 ≤ v ∧ v < 4294967296)
    (hr1 : rightF none xs = true) (hr2 : rightF none ys = true) (hV : vs ≠ []) :
    Calls Tryd.prog 6 #[linV (.slice a1 xs.length c1) k1, linV (.slice a2 ys.length c2) k2, .int .u32 n, .slice a3 vs.length c3] w fun e w' => Below w.heap.size w w' ∧ e = .returned (.bool true) := by
  obtain ⟨m1, hm1⟩ : ∃ m, m = xs.length := ⟨_, rfl⟩
  obtain ⟨m2, hm2⟩ : ∃ m, m = ys.length := ⟨_, rfl⟩
  obtain ⟨m3, hm3⟩ : ∃ m, m = vs.length := ⟨_, rfl⟩
  have hR1 := Hid.intro (fun w' (h : Held w' a1 c1 xs) => refRight_any a1 c1 xs k1 w' h.lies (by omega) hn1)
  have hR2 := Hid.intro (fun w' (h : Held w' a2 c2 ys) => refRight_any a2 c2 ys k2 w' h.lies (by omega) hn2)
  rw [hr1, ← hm1] at hR1
  rw [hr2, ← hm2] at hR2
  rw [← hm1, ← hm2, ← hm3]
  have hM1 := Hid.intro hm1
  have hM2 := Hid.intro hm2
  have hM3 := Hid.intro hm3
  have hl1' : (m1 : Int) ≤ 1100000 := by omega
  have hl2' : (m2 : Int) ≤ 1100000 := by omega
  have hl3' : (m3 : Int) ≤ 1100000 := by omega
  have hI := Hid.intro (And.intro h1 (And.intro h2 (And.intro h3 hP)))
  have hN1 := Hid.intro hn1
  have hN2 := Hid.intro hn2
  have hK1 := Hid.intro hk1
  have hK2 := Hid.intro hk2
  have hVS := Hid.intro hvs
  have hm3pos : 0 < m3 := by rw [hm3]; exact List.length_pos_iff.2 hV
  have e30 : ((m3 : Int) == 0) = false := by simp; omega
  have e31 : ¬ ((m3 : Int) = 0) := by omega
  have e32 : (0 : Int) < (m3 : Int) := by omega
  have e33 : ¬ (m3 = 0) := by omega
  have hFa := fill_all vs (xs ++ ys) (m1 + m2) (by rw [List.length_append, hm1, hm2])
  obtain ⟨G, hG⟩ : ∃ G : List UInt8 → Int, ∀ s, G s = (fillF vs (xs ++ ys) (m1 + m2) s).getD 0 := ⟨fun s => (fillF vs (xs ++ ys) (m1 + m2) s).getD 0, fun _ => rfl⟩
  obtain ⟨F, hF⟩ : ∃ F, F = fillF vs (xs ++ ys) (m1 + m2) := ⟨_, rfl⟩
  have hFs : ∀ t ∈ xs ++ ys, F t.name = some (G t.name) := fun t ht => by rw [hF, hG]; exact hFa t ht
  have hFx : ∀ t ∈ xs, F t.name = some (G t.name) := fun t ht => hFs t (List.mem_append.2 (.inl ht))
  have hFy : ∀ t ∈ ys, F t.name = some (G t.name) := fun t ht => hFs t (List.mem_append.2 (.inr ht))
  obtain ⟨A, hA⟩ : ∃ A, A = (k1 + sumV G xs) % 4294967296 := ⟨_, rfl⟩
  obtain ⟨Bv, hBv⟩ : ∃ Bv, Bv = (k2 + sumV G ys) % 4294967296 := ⟨_, rfl⟩
  have hV1 := Hid.intro (fun (W : World) (b q : Nat) (h : Held W a1 c1 xs) (hM : MapIs W b q F) => valueS a1 c1 xs k1 m1 hm1 b q F G hFx hk1 A hA W h (by omega) hn1 hM)
  have hV2 := Hid.intro (fun (W : World) (b q : Nat) (h : Held W a2 c2 ys) (hM : MapIs W b q F) => valueS a2 c2 ys k2 m2 hm2 b q F G hFy hk2 Bv hBv W h (by omega) hn2 hM)
  have hAd := Hid.intro (fun W hx hy => addV_held a1 a2 c1 c2 xs ys k1 k2 m1 m2 W hm1 hm2 hx hy (by omega) (by omega))
  have hTi := Hid.intro (fun W hx => timesV_held a1 c1 xs k1 n m1 W hm1 hx (by omega))
  have hV3 := Hid.intro (fun (W : World) (a : Option Addr) (m c b q : Nat) hm h hM => valueS a c (addT xs ys) ((k1 + k2) % 4294967296) m hm b q F G (names_add hFs) (by omega) ((A + Bv) % 4294967296) (sum_add G xs ys k1 k2 A Bv hA hBv) W h (addV_len hl1 hl2) (short_add hn1 hn2) hM)
  have hV4 := Hid.intro (fun (W : World) (a : Option Addr) (m c b q : Nat) hm h hM => valueS a c (timesT xs n) (k1 * n % 4294967296) m hm b q F G (names_times hFx n) (by omega) (A * n % 4294967296) (sum_times G xs k1 n A hA) W h (timesV_len hl1 n) (short_times hn1 n) hM)
  have hFH := Hid.intro hF
  have hGH := Hid.intro (fun s => hF ▸ hG s)
  have hAH := Hid.intro hA
  have hNa : Hid (∀ t ∈ xs ++ ys, t.name.length ≤ 1100000) := fun t ht => by
    rcases List.mem_append.1 ht with h | h
    · exact hn1 t h
    · exact hn2 t h
  clear hFa hG hF hFs hFx hFy hA hBv
  have hmk : ∀ wx : World, (Instr.makeMap 54 none).run Tryd.prog wx = .ok (.map (some wx.heap.size)) (wx.alloc (.map #[] 0)) := fun wx => run_makeMap 54 wx
  obtain ⟨M, hMe⟩ : ∃ M, M = m1 + m2 := ⟨_, rfl⟩
  have hMH := Hid.intro hMe
  have hMb : (M : Int) ≤ 2200000 := by omega
  clear hMe
  clear hm1 hm2 hm3 hr1 hr2 hn1 hn2 h1 h2 h3 hP hk1 hk2 hvs
  go_enter Tryd.func6, Tryd.ntmps6
  go_wp2_with fail
  have q1 := ((two_new w 25 (.slice a1 m1 c1) (.int .u32 k1)).alloc (.cells #[.slice a2 m2 c2, .int .u32 k2] 25))
  have q2 := (two_new (w.alloc (.cells #[.slice a1 m1 c1, .int .u32 k1] 25)) 25 (.slice a2 m2 c2) (.int .u32 k2))
  rw [show (w.alloc (.cells #[.slice a1 m1 c1, .int .u32 k1] 25)).heap.size = w.heap.size + 1 by simp] at q2
  have hb0 : Below w.heap.size w ((w.alloc (.cells #[.slice a1 m1 c1, .int .u32 k1] 25)).alloc (.cells #[.slice a2 m2 c2, .int .u32 k2] 25)) := ((below_alloc w _).alloc (by simp) _)
  obtain ⟨g2, hg2⟩ : ∃ g, g = w.heap.size + 1 := ⟨_, rfl⟩
  rw [← hg2] at q2 ⊢
  have hB := Hid.intro (B2.mk q1 q2 (hI.out.1.below hb0 (Nat.le_refl _)) (hI.out.2.1.below hb0 (Nat.le_refl _)) (hI.out.2.2.1.below hb0 (Nat.le_refl _)) (hI.out.2.2.2.below hb0))
  have hbw := Hid.intro hb0
  obtain ⟨_, x0, x1, _, _⟩ := q1
  clear q2 hb0 hI hg2
  generalize ((w.alloc (.cells #[.slice a1 m1 c1, .int .u32 k1] 25)).alloc (.cells #[.slice a2 m2 c2, .int .u32 k2] 25)) = w0 at *
  go_wp2_with (first
    | (go_at_call 23; (with_reducible refine (hR1.out _ hB.out.h1).mono ?_); rintro e wa ⟨rfl, hba⟩; have hBa := Hid.intro (hB.out.below hba); have hbwa := Hid.intro (chainV hbw.out hba); clear hba; obtain ⟨_, y0, y1, _, _⟩ := hBa.out.q2)
    | (go_at_call 23; (with_reducible refine (hR2.out _ hBa.out.h2).mono ?_); rintro e wx ⟨rfl, hbx⟩; have hBx := Hid.intro (hBa.out.below hbx); have hbwx := Hid.intro (chainV hbwa.out hbx); clear hbx))
  clear hB hBa hbw hbwa x0 x1 y0 y1 hR1 hR2 hmk
  have hmade := Hid.intro (map_new wx wx.heap.size rfl)
  have hBm := Hid.intro (hBx.out.below (below_alloc wx (.map #[] 0)))
  have hbm := Hid.intro (below_alloc wx (.map #[] 0))
  have hszm : (wx.alloc (.map #[] 0)).heap.size = wx.heap.size + 1 := by simp
  generalize wx.alloc (.map #[] 0) = wm at *
  obtain ⟨bm, hbmE⟩ : ∃ b, b = wx.heap.size := ⟨_, rfl⟩
  rw [← hbmE] at hmade ⊢
  replace hbmE := Hid.intro hbmE
  replace hszm := Hid.intro hszm
  obtain ⟨_, x0, x1, _, _⟩ := hBm.out.q1
  obtain ⟨_, y0, y1, _, _⟩ := hBm.out.q2
  have hKm : Hid (∀ W, Below wm.heap.size wm W → B2 W w.heap.size g2 a1 a2 a3 m1 m2 c1 c2 xs ys vs k1 k2) := fun W hW => hBm.out.below hW
  go_cut [11] (fun v11 wy => ∃ a c, v11 = .slice a M c ∧ Hid (wy.ownsRow wm.heap.size 56 2 (.slice a M c) M (rowT (xs ++ ys))) ∧ Hid (Below wm.heap.size wm wy))
  case first =>
    go_region_held3 (fun W => W.cell? ⟨w.heap.size, 0, none⟩ = some (.slice a1 m1 c1) ∧ W.cell? ⟨g2, 0, none⟩ = some (.slice a2 m2 c2)) (go_keep)
      ((first
        | (refine step_terms _ rfl (.tmp 33) (.tmp 35) rfl wm.heap.size _ 0 m1 [] xs rfl hM1.out rfl (own_empty wm _ (Nat.le_refl _)) a1 c1 rfl ((hBm.out.h1.below (below_alloc _ _) (Nat.le_refl _)).below ((Below.refl _ _).drew) (Nat.le_refl _)) (by omega) (by simp) ?_; intro a5 c5 w5 ho5 hg5; have hb5 : Hid (Below wm.heap.size wm w5) := ((below_alloc wm (.cells #[] 56)).drew).grown hg5 (by simp) (fun k hk => by cases hk; exact Nat.le_refl _); have hB5 := hKm.out w5 hb5.out; have u0 := hB5.q1.c0; have u1 := hB5.q2.c0; replace ho5 := Hid.intro ho5; clear hg5)
        | (refine step_terms _ rfl (.tmp 36) (.tmp 38) rfl wm.heap.size _ (0 + m1) m2 ([] ++ xs) ys (by have := hM1.out; simp; omega) hM2.out rfl ho5.out a2 c2 rfl (hKm.out _ hb5.out).h2 (by omega) hb5.out.size ?_; intro a6 c6 w6 ho6 hg6; have hb6 : Hid (Below wm.heap.size wm w6) := hb5.out.grown hg6 hb5.out.size (fun k hk => (ho5.out.lt k hk).1); have hB6 := hKm.out w6 hb6.out; have t0 := hB6.q1.c0; have t1 := hB6.q2.c0; replace ho6 := Hid.intro ho6; clear hg6)))
    all_goals (go_wp2_with fail; go_meet)
    all_goals exact all_met hMH.out ho6.out hb6.out
  case rest =>
    obtain ⟨a5, c5, rfl, hAll, hby⟩ := hcut
    clear x0 x1 y0 y1
    have hMap0 : Hid (MapIs wc bm 0 (fillF vs (xs ++ ys) 0)) := (map_empty hmade.out).below hby.out (by rw [hbmE.out, hszm.out]; omega)
    have hbwc := Hid.intro (hbm.out.trans (hby.out.mono hbm.out.size))
    have hTl : Hid (TmLies wc a5 (xs ++ ys)) := own_tmLies (all_len hMH.out hM1.out hM2.out hAll.out)
    have hgl : Hid (∀ g o, a5 = some ⟨g, o, none⟩ → bm < g) := fun g o hg => by
      subst hg
      have h1 := hszm.out
      have h2 := hbmE.out
      rcases hAll.out.2 with ⟨hx, _⟩ | ⟨g', cap, cur, hv, hbg, _⟩
      · cases hx
      · cases hv
        omega
    clear hAll
    go_wp2
    go_loopw [10, 12] (fun v10 vi wr => ∃ i : Nat, i ≤ M ∧ v10 = .int .i64 (i : Int) ∧ vi = .int .i64 (i : Int) ∧ Hid (MapIs wr bm i (fillF vs (xs ++ ys) i)) ∧ Hid (TmLies wr a5 (xs ++ ys)) ∧ Hid (Below wx.heap.size wx wr)) (fun _ vi _ => M - (intOf vi).toNat)
    case atStart => exact ⟨0, Nat.zero_le _, rfl, rfl, hMap0, hTl, hbwc⟩
    case round =>
      obtain ⟨i, hi, rfl, rfl, hMi, hTi2, hBi⟩ := hrel
      have hBr := Hid.intro (hBx.out.below hBi.out)
      by_cases hlt : i < M
      · obtain ⟨t, ht⟩ : ∃ t, (xs ++ ys)[i]? = some t := ⟨_, List.getElem?_eq_getElem (by rw [List.length_append]; have := hMH.out; have := hM1.out; have := hM2.out; omega)⟩
        obtain ⟨r, hrE⟩ : ∃ r, r = i % m3 := ⟨_, rfl⟩
        have hrl : r < m3 := by rw [hrE]; exact Nat.mod_lt _ hm3pos
        obtain ⟨v, hv⟩ : ∃ v, vs[r]? = some v := ⟨_, List.getElem?_eq_getElem (by have := hM3.out; omega)⟩
        have htm : Int.tmod (i : Int) (m3 : Int) = (r : Int) := by rw [hrE]; exact (Int.ofNat_tmod i m3).symm
        obtain ⟨ga, oa, ha5, hgaS, hTa⟩ : ∃ ga oa, a5 = some ⟨ga, oa, none⟩ ∧ ga < wr.heap.size ∧ ∀ j x, (xs ++ ys)[j]? = some x → TmAt wr ga (oa + j * 2) x := by
          rcases hTi2.out with h | ⟨ga, oa, h1, h2, h3⟩
          · rw [h] at ht; simp at ht
          · exact ⟨ga, oa, h1, h2, h3⟩
        obtain ⟨gv, ov, ha3, hgvS, hTv⟩ : ∃ gv ov, a3 = some ⟨gv, ov, none⟩ ∧ gv < wx.heap.size ∧ ∀ (j : Nat) (x : Int), vs[j]? = some x → wx.cell? ⟨gv, ov + j, none⟩ = some (.int .u32 x) := by
          rcases hBx.out.h3 with h | h
          · exact absurd h (by intro e; rw [e] at hv; simp at hv)
          · exact h
        subst ha3 ha5
        have p0 := (hTa i t ht).1
        have p1 : wr.cell? ⟨gv, ov + r, none⟩ = some (.int .u32 v) := (hBi.out.cell (p := ⟨gv, ov + r, none⟩) hgvS).trans (hTv r v hv)
        obtain ⟨w6, hrun6, hMap6, hg6⟩ := put_run (w := wr.drew) (hMi.out.below ((Below.refl _ _).drew) hMi.out.lt) (by omega) t.name (hNa.out t (List.mem_of_getElem? ht)) v (hVS.out v (List.mem_of_getElem? hv))
        have hbmga : bm < ga := hgl.out ga oa rfl
        have hbmE' := hbmE.out
        have s0 : w6.cell? ⟨ga, oa + i * 2, none⟩ = some (.string (str t.name)) := (hg6.cell_far ⟨ga, oa + i * 2, none⟩ hgaS (by simp; omega)).trans p0
        have s1 : w6.cell? ⟨gv, ov + r, none⟩ = some (.int .u32 v) := (hg6.cell_far ⟨gv, ov + r, none⟩ (Nat.lt_of_lt_of_le hgvS hBi.out.size) (by simp; omega)).trans p1
        have hMap6' : Hid (MapIs w6 bm (i + 1) (fillF vs (xs ++ ys) (i + 1))) := by
          show MapIs _ _ _ _
          rw [fillF_step ht, show vs.getD (i % vs.length) 0 = v by rw [← hM3.out, ← hrE, List.getD_eq_getElem?_getD, hv]; rfl]
          exact hMap6
        have hT6 : Hid (TmLies w6 (some ⟨ga, oa, none⟩) (xs ++ ys)) := .inr ⟨ga, oa, rfl, Nat.lt_of_lt_of_le hgaS hg6.size, fun j x hx => by
          obtain ⟨y0, y1⟩ := hTa j x hx
          exact ⟨(hg6.cell_far ⟨ga, oa + j * 2, none⟩ hgaS (by simp; omega)).trans y0, (hg6.cell_far ⟨ga, oa + j * 2 + 1, none⟩ hgaS (by simp; omega)).trans y1⟩⟩
        have hB6 : Hid (Below wx.heap.size wx w6) := (hBi.out.drew).grown hg6 hBi.out.drew.size (fun k hk => by cases hk; omega)
        have htw : IntKind.i64.wrap (r : Int) = (r : Int) := by rw [IntKind.wrap_i64]; omega
        have htm2 : (i : Int) % (m3 : Int) = (r : Int) := by rw [← htm, Int.tmod_eq_emod_of_nonneg (by omega)]
        have i1 : (0 : Int) ≤ (i : Int) := by omega
        have i2 : (i : Int) < (M : Int) := by omega
        have i3 : (0 : Int) ≤ (r : Int) := by omega
        have i4 : (r : Int) < (m3 : Int) := by omega
        clear hTa hTv hMap6 hg6 ht hv hrE hbmga hbmE'
        go_wp2
        go_region_held3 (fun W => W.cell? ⟨ga, oa + i * 2, none⟩ = some (.string (str t.name)) ∧ W.cell? ⟨gv, ov + r, none⟩ = some (.int .u32 v)) (go_keep) (fail)
        all_goals go_wp2_with fail
        all_goals first | omega | skip
        all_goals go_roundw
        case rel => exact ⟨i + 1, by omega, by go_num, by go_num, hMap6', hT6, hB6⟩
        case measure => simp [intOf]; omega
      · obtain rfl : M = i := by omega
        have hMapF : Hid (MapIs wr bm M F) := by show MapIs _ _ _ _; rw [hFH.out, ← hMH.out]; exact hMi.out
        have hbwr := Hid.intro (chainV hbwx.out hBi.out)
        obtain ⟨_, z0, z1, _, _⟩ := hBr.out.q1
        clear hMi hTi2 hTl hMap0
        go_wp2_with (first
          | (go_at_call 10; (with_reducible refine (hV1.out _ _ _ hBr.out.h1 hMapF.out).mono ?_); rintro e w1 ⟨hb1, rfl⟩; have hBd := Hid.intro (hBr.out.below hb1); have hMap1 := Hid.intro (hMapF.out.below hb1 hMapF.out.lt); have hbw1 := Hid.intro (chainV hbwr.out hb1); clear hb1; obtain ⟨_, s0, s1, _, _⟩ := hBd.out.q2)
          | (go_at_call 10; (with_reducible refine (hV2.out _ _ _ hBd.out.h2 hMap1.out).mono ?_); rintro e w2 ⟨hb2, rfl⟩; have hBe := Hid.intro (hBd.out.below hb2); have hMap2 := Hid.intro (hMap1.out.below hb2 hMap1.out.lt); have hbw2 := Hid.intro (chainV hbw1.out hb2); clear hb2; obtain ⟨_, t0, t1, _, _⟩ := hBe.out.q1; obtain ⟨_, t2, t3, _, _⟩ := hBe.out.q2)
          | (go_at_call 24; (with_reducible refine (hAd.out _ hBe.out.h1 hBe.out.h2).mono ?_); rintro e w3 ⟨hb3, a6, c6, m6, rfl, hm6, hh6⟩; have hBf := Hid.intro (hBe.out.below hb3); have hMap3 := Hid.intro (hMap2.out.below hb3 hMap2.out.lt); have hbw3 := Hid.intro (chainV hbw2.out hb3); replace hm6 := Hid.intro hm6; replace hh6 := Hid.intro hh6; clear hb3)
          | (go_at_call 10; (with_reducible refine (hV3.out _ _ _ _ _ _ hm6.out hh6.out hMap3.out).mono ?_); rintro e w4 ⟨hb4, rfl⟩; have hBg := Hid.intro (hBf.out.below hb4); have hMap4 := Hid.intro (hMap3.out.below hb4 hMap3.out.lt); have hbw4 := Hid.intro (chainV hbw3.out hb4); clear hb4; obtain ⟨_, p0, p1, _, _⟩ := hBg.out.q1)
          | (go_at_call 26; (with_reducible refine (hTi.out _ hBg.out.h1).mono ?_); rintro e w5 ⟨hb5, a7, c7, m7, rfl, hm7, hh7⟩; have hBh := Hid.intro (hBg.out.below hb5); have hMap5 := Hid.intro (hMap4.out.below hb5 hMap4.out.lt); have hbw5 := Hid.intro (chainV hbw4.out hb5); replace hm7 := Hid.intro hm7; replace hh7 := Hid.intro hh7; clear hb5)
          | (go_at_call 10; (with_reducible refine (hV4.out _ _ _ _ _ _ hm7.out hh7.out hMap5.out).mono ?_); rintro e w6 ⟨hb6, rfl⟩; have hBi6 := Hid.intro (hBh.out.below hb6); have hMap6 := Hid.intro (hMap5.out.below hb6 hMap5.out.lt); have hbw6 := Hid.intro (chainV hbw5.out hb6); clear hb6; obtain ⟨_, n0, n1', _, _⟩ := hBi6.out.q1))
        all_goals first | omega | skip
        clear z0 z1 s0 s1 t0 t1 t2 t3 p0 p1 hV1 hV2 hV3 hV4 hAd hTi
        go_loopw [21, 22] (fun v21 vi wz => ∃ (j : Nat) (W : Int), j ≤ m1 ∧ v21 = .int .u32 W ∧ vi = .int .i64 (j : Int) ∧ Hid (W = (k1 + sumV G (xs.take j)) % 4294967296) ∧ Hid (Below w6.heap.size w6 wz)) (fun _ vi _ => m1 - (intOf vi).toNat)
        case atStart => exact ⟨0, k1, Nat.zero_le _, rfl, rfl, (show k1 = (k1 + sumV G (xs.take 0)) % 4294967296 by rw [List.take_zero]; show k1 = (k1 + 0) % 4294967296; have := hK1.out; omega), Below.refl _ _⟩
        case round =>
          obtain ⟨j, W, hj, rfl, rfl, hWj, hBz⟩ := hrel
          have hBq := Hid.intro (hBi6.out.below hBz.out)
          obtain ⟨_, z0, z1, _, _⟩ := hBq.out.q1
          by_cases hlj : j < m1
          · obtain ⟨t, ht⟩ : ∃ t, xs[j]? = some t := ⟨_, List.getElem?_eq_getElem (by have := hM1.out; omega)⟩
            obtain ⟨gx, ox, hax, hgxS, hTx⟩ : ∃ gx ox, a1 = some ⟨gx, ox, none⟩ ∧ gx < wr.heap.size ∧ TmAt wr gx (ox + j * 2) t := by
              rcases hBq.out.h1.lies with h | ⟨gx, ox, e1, e2, e3⟩
              · rw [h] at ht; simp at ht
              · exact ⟨gx, ox, e1, e2, e3 j t ht⟩
            subst hax
            obtain ⟨p0, p1⟩ := hTx
            have hlk : ∀ p : BelowV wr, (Instr.lookup 54 (.map (some bm)) (.string (str t.name)) false).run Tryd.prog p.wd = .ok (.int .u32 (G t.name)) p.wd := fun p => by
              have := look_run ((hMap6.out.below hBz.out hMap6.out.lt).below p.h (hMap6.out.below hBz.out hMap6.out.lt).lt) t.name (hN1.out t (List.mem_of_getElem? ht))
              rw [this, hGH.out]
            have u0 : ∀ p : BelowV wr, p.wd.cell? ⟨w.heap.size, 0, none⟩ = some (.slice (some ⟨gx, ox, none⟩) m1 c1) := fun p => p.cell hBq.out.q1.lt z0
            have u1 : ∀ p : BelowV wr, p.wd.cell? ⟨gx, ox + j * 2, none⟩ = some (.string (str t.name)) := fun p => p.cell hgxS p0
            have u2 : ∀ p : BelowV wr, p.wd.cell? ⟨gx, ox + j * 2 + 1, none⟩ = some (.int .u32 t.coef) := fun p => p.cell hgxS p1
            have hWn : Hid ((W + t.coef * G t.name % 4294967296) % 4294967296 = (k1 + sumV G (xs.take (j + 1))) % 4294967296) := by
              show _ = _
              obtain ⟨hjl, hje⟩ := List.getElem?_eq_some_iff.1 ht
              rw [hWj.out, List.take_succ_eq_append_getElem hjl, hje, sumV_append]
              simp only [sumV]
              omega
            have i1 : (0 : Int) ≤ (j : Int) := by omega
            have i2 : (j : Int) < (m1 : Int) := by omega
            clear ht
            go_wp2
            refine wp_region_quiet_v (by kernel_rfl) (by kernel_rfl) ?_
            repeat (first | (with_reducible refine wpQuiet_skip (by with_unfolding_all rfl) ?_; simp only [Act.put, List.setIfInBounds_toArray, List.set_cons_zero, List.set_cons_succ]) | (with_reducible refine wpQuiet_step (fun K hK => ?_); go_simp; (with_reducible refine hK _ ?_; clear hK K)))
            with_reducible refine wpQuiet_nil ?_
            intro _ hw'
            obtain ⟨pq, hw''⟩ := hw'
            subst hw''
            clear hlk u0 u1 u2
            go_wp2_with fail
            all_goals first | omega | skip
            go_roundw
            case rel => exact ⟨j + 1, _, by omega, rfl, by go_num, hWn, chainV hBz.out pq.h⟩
            case measure => simp [intOf]; omega
          · obtain rfl : m1 = j := by omega
            obtain rfl : A = W := by
              rw [hWj.out, hAH.out, hM1.out, List.take_length]
            go_wp2_with (go_at_call 14; (with_reducible refine (known_any _ hBq.out.P).mono ?_); rintro e wk ⟨hbk, rfl⟩; have hbwk := Hid.intro (chainV (chainV hbw6.out hBz.out) hbk); clear hbk)
            all_goals first | omega | skip
            all_goals go_ret
            all_goals exact ⟨hbwk.out, rfl⟩
end Go.Proofs.YtijdjljnppkhmaaDoor
