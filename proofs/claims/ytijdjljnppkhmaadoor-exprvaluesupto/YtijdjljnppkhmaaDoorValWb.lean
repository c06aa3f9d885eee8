/- ExprValues: the walk where there are no values. -/
import Derived.Test.YtijdjljnppkhmaaDoorValW0
import Derived.Test.YtijdjljnppkhmaaDoorQuietB
import Derived.Test.YtijdjljnppkhmaaDoorNumbersW
import Derived.Test.YtijdjljnppkhmaaDoorLinF
import Derived.Deep.RegionWith
import Derived.Deep.RegionHeld3
import Derived.Deep.RegionLaw
import Derived.Deep.AppendLies
import Derived.Deep.DeepCutAuto
import Derived.BigRegion
namespace Go.Proofs.YtijdjljnppkhmaaDoor
open Go.ChangeShapes Go.WideShapes Go.ChangeAt Go.RowKit Go.WideMaps Go.Maps
set_option linter.unusedVariables false
set_option maxRecDepth 100000

theorem all_met {wm w6 : World} {a6 : Option Addr} {c6 M m1 m2 : Nat} {xs ys : List Tm} (hM : M = m1 + m2) (ho : w6.ownsRow wm.heap.size 56 2 (.slice a6 (0 + m1 + m2) c6) (0 + m1 + m2) (rowT (([] ++ xs) ++ ys))) (hb : Below wm.heap.size wm w6) :
    ∃ a c, Value.slice a6 (m1 + m2) c6 = .slice a M c ∧ Hid (w6.ownsRow wm.heap.size 56 2 (.slice a M c) M (rowT (xs ++ ys))) ∧ Hid (Below wm.heap.size wm w6) := by
  subst hM
  rw [Nat.zero_add] at ho
  exact ⟨a6, c6, rfl, ho, hb⟩

theorem all_len {w : World} {B M m1 m2 : Nat} {a : Option Addr} {c : Nat} {xs ys : List Tm} (hM : M = m1 + m2) (h1 : m1 = xs.length) (h2 : m2 = ys.length) (h : w.ownsRow B 56 2 (.slice a M c) M (rowT (xs ++ ys))) : w.ownsRow B 56 2 (.slice a (xs ++ ys).length c) (xs ++ ys).length (rowT (xs ++ ys)) := by
  rw [List.length_append, ← h1, ← h2, ← hM]
  exact h

set_option maxHeartbeats 8000000 in
theorem values_nil0 (a1 a2 a3 : Option Addr) (c1 c2 c3 : Nat) (xs ys : List Tm) (vs : List Int) (k1 k2 n : Int) (w : World) (h1 : Held w a1 c1 xs) (h2 : Held w a2 c2 ys) (h3 : IntLies w a3 vs) (hP : Pow w)
    (hl1 : xs.length ≤ 1100000) (hl2 : ys.length ≤ 1100000) (hl3 : vs.length ≤ 1100000) (hn1 : ∀ t ∈ xs, t.name.length ≤ 1100000) (hn2 : ∀ t ∈ ys, t.name.length ≤ 1100000) (hk1 : 0 ≤ k1 ∧ k1 < 4294967296) (hk2 : 0 ≤ k2 ∧ k2 < 4294967296) (hvs : ∀ v ∈ vs, 0 ≤ v ∧ v < 4294967296)
    (hr1 : rightF none xs = true) (hr2 : rightF none ys = true) (hV : vs = []) (hX : xs = []) :
    Calls Tryd.prog 6 #[linV (.slice a1 xs.length c1) k1, linV (.slice a2 ys.length c2) k2, .int .u32 n, .slice a3 vs.length c3] w fun e w' => Below w.heap.size w w' ∧ e = .returned (.bool true) := by
  obtain ⟨m1, hm1⟩ : ∃ m, m = xs.length := ⟨_, rfl⟩
  obtain ⟨m2, hm2⟩ : ∃ m, m = ys.length := ⟨_, rfl⟩
  obtain ⟨m3, hm3⟩ : ∃ m, m = vs.length := ⟨_, rfl⟩
  have hR1 := Hid.intro (fun w' (h : Held w' a1 c1 xs) => refRight_any a1 c1 xs k1 w' h.lies (by omega) hn1)
  have hR2 := Hid.intro (fun w' (h : Held w' a2 c2 ys) => refRight_any a2 c2 ys k2 w' h.lies (by omega) hn2)
  rw [hr1, ← hm1] at hR1
  rw [hr2, ← hm2] at hR2
  rw [← hm1, ← hm2, ← hm3]
  have hM1 := Hid.intro hm1
  have hM2 := Hid.intro hm2
  have hM3 := Hid.intro hm3
  have hl1' : (m1 : Int) ≤ 1100000 := by omega
  have hl2' : (m2 : Int) ≤ 1100000 := by omega
  have hl3' : (m3 : Int) ≤ 1100000 := by omega
  have hI := Hid.intro (And.intro h1 (And.intro h2 (And.intro h3 hP)))
  have hN1 := Hid.intro hn1
  have hN2 := Hid.intro hn2
  have hK1 := Hid.intro hk1
  have hK2 := Hid.intro hk2
  have hVS := Hid.intro hvs
  have hV1 := Hid.intro (fun (W : World) (b q : Nat) (h : Held W a1 c1 xs) (hM : MapIs W b q (fun _ => none)) => valueV a1 c1 xs k1 m1 hm1 b q (fun _ => none) (some k1) (by rw [hX]; rfl) W h (by omega) hn1 hM)
  have hV2 := Hid.intro (fun (W : World) (b q : Nat) (h : Held W a2 c2 ys) (hM : MapIs W b q (fun _ => none)) => valueX a2 c2 ys k2 m2 hm2 b q (fun _ => none) W h (by omega) hn2 hM)
  have hAd := Hid.intro (fun W hx hy => addV_held a1 a2 c1 c2 xs ys k1 k2 m1 m2 W hm1 hm2 hx hy (by omega) (by omega))
  have hTi := Hid.intro (fun W hx => timesV_held a1 c1 xs k1 n m1 W hm1 hx (by omega))
  have hV3 := Hid.intro (fun (W : World) (a : Option Addr) (m c b q : Nat) hm h hM => valueX a c (addT xs ys) ((k1 + k2) % 4294967296) m hm b q (fun _ => none) W h (addV_len hl1 hl2) (short_add hn1 hn2) hM)
  have hV4 := Hid.intro (fun (W : World) (a : Option Addr) (m c b q : Nat) hm h hM => valueX a c (timesT xs n) (k1 * n % 4294967296) m hm b q (fun _ => none) W h (timesV_len hl1 n) (short_times hn1 n) hM)
  have hm30 : m3 = 0 := by rw [hm3, hV]; rfl
  subst hm30
  have e10 : ((m1 : Int) == 0) = true := by rw [hm1, hX]; rfl
  simp only [Option.getD_some, Option.isSome_some] at hV1
  have hmk : ∀ wx : World, (Instr.makeMap 54 none).run Tryd.prog wx = .ok (.map (some wx.heap.size)) (wx.alloc (.map #[] 0)) := fun wx => run_makeMap 54 wx
  obtain ⟨M, hMe⟩ : ∃ M, M = m1 + m2 := ⟨_, rfl⟩
  have hMH := Hid.intro hMe
  have hMb : (M : Int) ≤ 2200000 := by omega
  clear hMe
  clear hm1 hm2 hm3 hr1 hr2 hn1 hn2 h1 h2 h3 hP hk1 hk2 hvs
  go_enter Tryd.func6, Tryd.ntmps6
  go_wp2_with fail
  have q1 := ((two_new w 25 (.slice a1 m1 c1) (.int .u32 k1)).alloc (.cells #[.slice a2 m2 c2, .int .u32 k2] 25))
  have q2 := (two_new (w.alloc (.cells #[.slice a1 m1 c1, .int .u32 k1] 25)) 25 (.slice a2 m2 c2) (.int .u32 k2))
  rw [show (w.alloc (.cells #[.slice a1 m1 c1, .int .u32 k1] 25)).heap.size = w.heap.size + 1 by simp] at q2
  have hb0 : Below w.heap.size w ((w.alloc (.cells #[.slice a1 m1 c1, .int .u32 k1] 25)).alloc (.cells #[.slice a2 m2 c2, .int .u32 k2] 25)) := ((below_alloc w _).alloc (by simp) _)
  obtain ⟨g2, hg2⟩ : ∃ g, g = w.heap.size + 1 := ⟨_, rfl⟩
  rw [← hg2] at q2 ⊢
  have hB := Hid.intro (B2.mk q1 q2 (hI.out.1.below hb0 (Nat.le_refl _)) (hI.out.2.1.below hb0 (Nat.le_refl _)) (hI.out.2.2.1.below hb0 (Nat.le_refl _)) (hI.out.2.2.2.below hb0))
  have hbw := Hid.intro hb0
  obtain ⟨_, x0, x1, _, _⟩ := q1
  clear q2 hb0 hI hg2
  generalize ((w.alloc (.cells #[.slice a1 m1 c1, .int .u32 k1] 25)).alloc (.cells #[.slice a2 m2 c2, .int .u32 k2] 25)) = w0 at *
  go_wp2_with (first
    | (go_at_call 23; (with_reducible refine (hR1.out _ hB.out.h1).mono ?_); rintro e wa ⟨rfl, hba⟩; have hBa := Hid.intro (hB.out.below hba); have hbwa := Hid.intro (chainV hbw.out hba); clear hba; obtain ⟨_, y0, y1, _, _⟩ := hBa.out.q2)
    | (go_at_call 23; (with_reducible refine (hR2.out _ hBa.out.h2).mono ?_); rintro e wx ⟨rfl, hbx⟩; have hBx := Hid.intro (hBa.out.below hbx); have hbwx := Hid.intro (chainV hbwa.out hbx); clear hbx))
  clear hB hBa hbw hbwa x0 x1 y0 y1 hR1 hR2 hmk
  have hmade := Hid.intro (map_new wx wx.heap.size rfl)
  have hBm := Hid.intro (hBx.out.below (below_alloc wx (.map #[] 0)))
  have hbm := Hid.intro (below_alloc wx (.map #[] 0))
  have hszm : (wx.alloc (.map #[] 0)).heap.size = wx.heap.size + 1 := by simp
  generalize wx.alloc (.map #[] 0) = wm at *
  obtain ⟨bm, hbmE⟩ : ∃ b, b = wx.heap.size := ⟨_, rfl⟩
  rw [← hbmE] at hmade ⊢
  replace hbmE := Hid.intro hbmE
  replace hszm := Hid.intro hszm
  obtain ⟨_, x0, x1, _, _⟩ := hBm.out.q1
  obtain ⟨_, y0, y1, _, _⟩ := hBm.out.q2
  have hKm : Hid (∀ W, Below wm.heap.size wm W → B2 W w.heap.size g2 a1 a2 a3 m1 m2 c1 c2 xs ys vs k1 k2) := fun W hW => hBm.out.below hW
  go_cut [11] (fun v11 wy => ∃ a c, v11 = .slice a M c ∧ Hid (wy.ownsRow wm.heap.size 56 2 (.slice a M c) M (rowT (xs ++ ys))) ∧ Hid (Below wm.heap.size wm wy))
  case first =>
    go_region_held3 (fun W => W.cell? ⟨w.heap.size, 0, none⟩ = some (.slice a1 m1 c1) ∧ W.cell? ⟨g2, 0, none⟩ = some (.slice a2 m2 c2)) (go_keep)
      ((first
        | (refine step_terms _ rfl (.tmp 33) (.tmp 35) rfl wm.heap.size _ 0 m1 [] xs rfl hM1.out rfl (own_empty wm _ (Nat.le_refl _)) a1 c1 rfl ((hBm.out.h1.below (below_alloc _ _) (Nat.le_refl _)).below ((Below.refl _ _).drew) (Nat.le_refl _)) (by omega) (by simp) ?_; intro a5 c5 w5 ho5 hg5; have hb5 : Hid (Below wm.heap.size wm w5) := ((below_alloc wm (.cells #[] 56)).drew).grown hg5 (by simp) (fun k hk => by cases hk; exact Nat.le_refl _); have hB5 := hKm.out w5 hb5.out; have u0 := hB5.q1.c0; have u1 := hB5.q2.c0; replace ho5 := Hid.intro ho5; clear hg5)
        | (refine step_terms _ rfl (.tmp 36) (.tmp 38) rfl wm.heap.size _ (0 + m1) m2 ([] ++ xs) ys (by have := hM1.out; simp; omega) hM2.out rfl ho5.out a2 c2 rfl (hKm.out _ hb5.out).h2 (by omega) hb5.out.size ?_; intro a6 c6 w6 ho6 hg6; have hb6 : Hid (Below wm.heap.size wm w6) := hb5.out.grown hg6 hb5.out.size (fun k hk => (ho5.out.lt k hk).1); have hB6 := hKm.out w6 hb6.out; have t0 := hB6.q1.c0; have t1 := hB6.q2.c0; replace ho6 := Hid.intro ho6; clear hg6)))
    all_goals (go_wp2_with fail; go_meet)
    all_goals exact all_met hMH.out ho6.out hb6.out
  case rest =>
    obtain ⟨a5, c5, rfl, hAll, hby⟩ := hcut
    clear x0 x1 y0 y1
    have hMap0 : Hid (MapIs wc bm 0 (fun _ => none)) := (map_empty hmade.out).below hby.out (by rw [hbmE.out, hszm.out]; omega)
    have hBc := Hid.intro (hKm.out wc hby.out)
    have hbwc := Hid.intro (chainV hbwx.out ((hbm.out.trans (hby.out.mono hbm.out.size))))
    clear hAll
    go_wp2
    go_loopw [10, 12] (fun v10 vi wr => ∃ i : Nat, i ≤ M ∧ v10 = .int .i64 (i : Int) ∧ vi = .int .i64 (i : Int) ∧ wr = wc) (fun _ vi _ => M - (intOf vi).toNat)
    case atStart => exact ⟨0, Nat.zero_le _, rfl, rfl, rfl⟩
    case round =>
      obtain ⟨i, hi, rfl, rfl, rfl⟩ := hrel
      by_cases hlt : i < M
      · go_wp2
        all_goals first | omega | skip
        go_roundw
        case rel => exact ⟨i + 1, by omega, by go_num, by go_num, by trivial⟩
        case measure => simp [intOf]; omega
      · obtain ⟨_, z0, z1, _, _⟩ := hBc.out.q1
        go_wp2_with (first
          | (go_at_call 10; (with_reducible refine (hV1.out _ _ _ hBc.out.h1 hMap0.out).mono ?_); rintro e w1 ⟨hb1, rfl⟩; have hBd := Hid.intro (hBc.out.below hb1); have hMap1 := Hid.intro (hMap0.out.below hb1 hMap0.out.lt); have hbw1 := Hid.intro (chainV hbwc.out hb1); clear hb1; obtain ⟨_, s0, s1, _, _⟩ := hBd.out.q2)
          | (go_at_call 10; (with_reducible refine (hV2.out _ _ _ hBd.out.h2 hMap1.out).mono ?_); rintro e w2 ⟨hb2, r2, o2, rfl⟩; have hBe := Hid.intro (hBd.out.below hb2); have hMap2 := Hid.intro (hMap1.out.below hb2 hMap1.out.lt); have hbw2 := Hid.intro (chainV hbw1.out hb2); clear hb2; obtain ⟨_, t0, t1, _, _⟩ := hBe.out.q1; obtain ⟨_, t2, t3, _, _⟩ := hBe.out.q2)
          | (go_at_call 24; (with_reducible refine (hAd.out _ hBe.out.h1 hBe.out.h2).mono ?_); rintro e w3 ⟨hb3, a6, c6, m6, rfl, hm6, hh6⟩; have hBf := Hid.intro (hBe.out.below hb3); have hMap3 := Hid.intro (hMap2.out.below hb3 hMap2.out.lt); have hbw3 := Hid.intro (chainV hbw2.out hb3); replace hm6 := Hid.intro hm6; replace hh6 := Hid.intro hh6; clear hb3)
          | (go_at_call 10; (with_reducible refine (hV3.out _ _ _ _ _ _ hm6.out hh6.out hMap3.out).mono ?_); rintro e w4 ⟨hb4, r4, o4, rfl⟩; have hBg := Hid.intro (hBf.out.below hb4); have hMap4 := Hid.intro (hMap3.out.below hb4 hMap3.out.lt); have hbw4 := Hid.intro (chainV hbw3.out hb4); clear hb4; obtain ⟨_, p0, p1, _, _⟩ := hBg.out.q1)
          | (go_at_call 26; (with_reducible refine (hTi.out _ hBg.out.h1).mono ?_); rintro e w5 ⟨hb5, a7, c7, m7, rfl, hm7, hh7⟩; have hBh := Hid.intro (hBg.out.below hb5); have hMap5 := Hid.intro (hMap4.out.below hb5 hMap4.out.lt); have hbw5 := Hid.intro (chainV hbw4.out hb5); replace hm7 := Hid.intro hm7; replace hh7 := Hid.intro hh7; clear hb5)
          | (go_at_call 10; (with_reducible refine (hV4.out _ _ _ _ _ _ hm7.out hh7.out hMap5.out).mono ?_); rintro e w6 ⟨hb6, r6, o6, rfl⟩; have hBi := Hid.intro (hBh.out.below hb6); have hbw6 := Hid.intro (chainV hbw5.out hb6); clear hb6; obtain ⟨_, n0, n1', _, _⟩ := hBi.out.q1)
          | (go_at_call 14; (with_reducible refine (known_any _ hBi.out.P).mono ?_); rintro e wk ⟨hbk, rfl⟩; have hbwk := Hid.intro (chainV hbw6.out hbk); clear hbk))
        all_goals first | omega | skip
        all_goals go_ret
        all_goals exact ⟨hbwk.out, rfl⟩
set_option maxHeartbeats 8000000 in
theorem values_nil1 (a1 a2 a3 : Option Addr) (c1 c2 c3 : Nat) (xs ys : List Tm) (vs : List Int) (k1 k2 n : Int) (w : World) (h1 : Held w a1 c1 xs) (h2 : Held w a2 c2 ys) (h3 : IntLies w a3 vs) (hP : Pow w)
    (hl1 : xs.length ≤ 1100000) (hl2 : ys.length ≤ 1100000) (hl3 : vs.length ≤ 1100000) (hn1 : ∀ t ∈ xs, t.name.length ≤ 1100000) (hn2 : ∀ t ∈ ys, t.name.length ≤ 1100000) (hk1 : 0 ≤ k1 ∧ k1 < 4294967296) (hk2 : 0 ≤ k2 ∧ k2 < 4294967296) (hvs : ∀ v ∈ vs, 0 ≤ v ∧ v < 4294967296)
    (hr1 : rightF none xs = true) (hr2 : rightF none ys = true) (hV : vs = []) (hX : xs ≠ []) :
    Calls Tryd.prog 6 #[linV (.slice a1 xs.length c1) k1, linV (.slice a2 ys.length c2) k2, .int .u32 n, .slice a3 vs.length c3] w fun e w' => Below w.heap.size w w' ∧ e = .returned (.bool true) := by
  obtain ⟨m1, hm1⟩ : ∃ m, m = xs.length := ⟨_, rfl⟩
  obtain ⟨m2, hm2⟩ : ∃ m, m = ys.length := ⟨_, rfl⟩
  obtain ⟨m3, hm3⟩ : ∃ m, m = vs.length := ⟨_, rfl⟩
  have hR1 := Hid.intro (fun w' (h : Held w' a1 c1 xs) => refRight_any a1 c1 xs k1 w' h.lies (by omega) hn1)
  have hR2 := Hid.intro (fun w' (h : Held w' a2 c2 ys) => refRight_any a2 c2 ys k2 w' h.lies (by omega) hn2)
  rw [hr1, ← hm1] at hR1
  rw [hr2, ← hm2] at hR2
  rw [← hm1, ← hm2, ← hm3]
  have hM1 := Hid.intro hm1
  have hM2 := Hid.intro hm2
  have hM3 := Hid.intro hm3
  have hl1' : (m1 : Int) ≤ 1100000 := by omega
  have hl2' : (m2 : Int) ≤ 1100000 := by omega
  have hl3' : (m3 : Int) ≤ 1100000 := by omega
  have hI := Hid.intro (And.intro h1 (And.intro h2 (And.intro h3 hP)))
  have hN1 := Hid.intro hn1
  have hN2 := Hid.intro hn2
  have hK1 := Hid.intro hk1
  have hK2 := Hid.intro hk2
  have hVS := Hid.intro hvs
  have hV1 := Hid.intro (fun (W : World) (b q : Nat) (h : Held W a1 c1 xs) (hM : MapIs W b q (fun _ => none)) => valueV a1 c1 xs k1 m1 hm1 b q (fun _ => none) none (by cases hx : xs with | nil => exact absurd hx hX | cons t r => rfl) W h (by omega) hn1 hM)
  have hV2 := Hid.intro (fun (W : World) (b q : Nat) (h : Held W a2 c2 ys) (hM : MapIs W b q (fun _ => none)) => valueX a2 c2 ys k2 m2 hm2 b q (fun _ => none) W h (by omega) hn2 hM)
  have hAd := Hid.intro (fun W hx hy => addV_held a1 a2 c1 c2 xs ys k1 k2 m1 m2 W hm1 hm2 hx hy (by omega) (by omega))
  have hTi := Hid.intro (fun W hx => timesV_held a1 c1 xs k1 n m1 W hm1 hx (by omega))
  have hV3 := Hid.intro (fun (W : World) (a : Option Addr) (m c b q : Nat) hm h hM => valueX a c (addT xs ys) ((k1 + k2) % 4294967296) m hm b q (fun _ => none) W h (addV_len hl1 hl2) (short_add hn1 hn2) hM)
  have hV4 := Hid.intro (fun (W : World) (a : Option Addr) (m c b q : Nat) hm h hM => valueX a c (timesT xs n) (k1 * n % 4294967296) m hm b q (fun _ => none) W h (timesV_len hl1 n) (short_times hn1 n) hM)
  have hm30 : m3 = 0 := by rw [hm3, hV]; rfl
  subst hm30
  have hm1pos : 0 < m1 := by rw [hm1]; exact List.length_pos_iff.2 hX
  have e10 : ((m1 : Int) == 0) = false := by simp; omega
  simp only [Option.getD_none, Option.isSome_none] at hV1
  have hmk : ∀ wx : World, (Instr.makeMap 54 none).run Tryd.prog wx = .ok (.map (some wx.heap.size)) (wx.alloc (.map #[] 0)) := fun wx => run_makeMap 54 wx
  obtain ⟨M, hMe⟩ : ∃ M, M = m1 + m2 := ⟨_, rfl⟩
  have hMH := Hid.intro hMe
  have hMb : (M : Int) ≤ 2200000 := by omega
  clear hMe
  clear hm1 hm2 hm3 hr1 hr2 hn1 hn2 h1 h2 h3 hP hk1 hk2 hvs
  go_enter Tryd.func6, Tryd.ntmps6
  go_wp2_with fail
  have q1 := ((two_new w 25 (.slice a1 m1 c1) (.int .u32 k1)).alloc (.cells #[.slice a2 m2 c2, .int .u32 k2] 25))
  have q2 := (two_new (w.alloc (.cells #[.slice a1 m1 c1, .int .u32 k1] 25)) 25 (.slice a2 m2 c2) (.int .u32 k2))
  rw [show (w.alloc (.cells #[.slice a1 m1 c1, .int .u32 k1] 25)).heap.size = w.heap.size + 1 by simp] at q2
  have hb0 : Below w.heap.size w ((w.alloc (.cells #[.slice a1 m1 c1, .int .u32 k1] 25)).alloc (.cells #[.slice a2 m2 c2, .int .u32 k2] 25)) := ((below_alloc w _).alloc (by simp) _)
  obtain ⟨g2, hg2⟩ : ∃ g, g = w.heap.size + 1 := ⟨_, rfl⟩
  rw [← hg2] at q2 ⊢
  have hB := Hid.intro (B2.mk q1 q2 (hI.out.1.below hb0 (Nat.le_refl _)) (hI.out.2.1.below hb0 (Nat.le_refl _)) (hI.out.2.2.1.below hb0 (Nat.le_refl _)) (hI.out.2.2.2.below hb0))
  have hbw := Hid.intro hb0
  obtain ⟨_, x0, x1, _, _⟩ := q1
  clear q2 hb0 hI hg2
  generalize ((w.alloc (.cells #[.slice a1 m1 c1, .int .u32 k1] 25)).alloc (.cells #[.slice a2 m2 c2, .int .u32 k2] 25)) = w0 at *
  go_wp2_with (first
    | (go_at_call 23; (with_reducible refine (hR1.out _ hB.out.h1).mono ?_); rintro e wa ⟨rfl, hba⟩; have hBa := Hid.intro (hB.out.below hba); have hbwa := Hid.intro (chainV hbw.out hba); clear hba; obtain ⟨_, y0, y1, _, _⟩ := hBa.out.q2)
    | (go_at_call 23; (with_reducible refine (hR2.out _ hBa.out.h2).mono ?_); rintro e wx ⟨rfl, hbx⟩; have hBx := Hid.intro (hBa.out.below hbx); have hbwx := Hid.intro (chainV hbwa.out hbx); clear hbx))
  clear hB hBa hbw hbwa x0 x1 y0 y1 hR1 hR2 hmk
  have hmade := Hid.intro (map_new wx wx.heap.size rfl)
  have hBm := Hid.intro (hBx.out.below (below_alloc wx (.map #[] 0)))
  have hbm := Hid.intro (below_alloc wx (.map #[] 0))
  have hszm : (wx.alloc (.map #[] 0)).heap.size = wx.heap.size + 1 := by simp
  generalize wx.alloc (.map #[] 0) = wm at *
  obtain ⟨bm, hbmE⟩ : ∃ b, b = wx.heap.size := ⟨_, rfl⟩
  rw [← hbmE] at hmade ⊢
  replace hbmE := Hid.intro hbmE
  replace hszm := Hid.intro hszm
  obtain ⟨_, x0, x1, _, _⟩ := hBm.out.q1
  obtain ⟨_, y0, y1, _, _⟩ := hBm.out.q2
  have hKm : Hid (∀ W, Below wm.heap.size wm W → B2 W w.heap.size g2 a1 a2 a3 m1 m2 c1 c2 xs ys vs k1 k2) := fun W hW => hBm.out.below hW
  go_cut [11] (fun v11 wy => ∃ a c, v11 = .slice a M c ∧ Hid (wy.ownsRow wm.heap.size 56 2 (.slice a M c) M (rowT (xs ++ ys))) ∧ Hid (Below wm.heap.size wm wy))
  case first =>
    go_region_held3 (fun W => W.cell? ⟨w.heap.size, 0, none⟩ = some (.slice a1 m1 c1) ∧ W.cell? ⟨g2, 0, none⟩ = some (.slice a2 m2 c2)) (go_keep)
      ((first
        | (refine step_terms _ rfl (.tmp 33) (.tmp 35) rfl wm.heap.size _ 0 m1 [] xs rfl hM1.out rfl (own_empty wm _ (Nat.le_refl _)) a1 c1 rfl ((hBm.out.h1.below (below_alloc _ _) (Nat.le_refl _)).below ((Below.refl _ _).drew) (Nat.le_refl _)) (by omega) (by simp) ?_; intro a5 c5 w5 ho5 hg5; have hb5 : Hid (Below wm.heap.size wm w5) := ((below_alloc wm (.cells #[] 56)).drew).grown hg5 (by simp) (fun k hk => by cases hk; exact Nat.le_refl _); have hB5 := hKm.out w5 hb5.out; have u0 := hB5.q1.c0; have u1 := hB5.q2.c0; replace ho5 := Hid.intro ho5; clear hg5)
        | (refine step_terms _ rfl (.tmp 36) (.tmp 38) rfl wm.heap.size _ (0 + m1) m2 ([] ++ xs) ys (by have := hM1.out; simp; omega) hM2.out rfl ho5.out a2 c2 rfl (hKm.out _ hb5.out).h2 (by omega) hb5.out.size ?_; intro a6 c6 w6 ho6 hg6; have hb6 : Hid (Below wm.heap.size wm w6) := hb5.out.grown hg6 hb5.out.size (fun k hk => (ho5.out.lt k hk).1); have hB6 := hKm.out w6 hb6.out; have t0 := hB6.q1.c0; have t1 := hB6.q2.c0; replace ho6 := Hid.intro ho6; clear hg6)))
    all_goals (go_wp2_with fail; go_meet)
    all_goals exact all_met hMH.out ho6.out hb6.out
  case rest =>
    obtain ⟨a5, c5, rfl, hAll, hby⟩ := hcut
    clear x0 x1 y0 y1
    have hMap0 : Hid (MapIs wc bm 0 (fun _ => none)) := (map_empty hmade.out).below hby.out (by rw [hbmE.out, hszm.out]; omega)
    have hBc := Hid.intro (hKm.out wc hby.out)
    have hbwc := Hid.intro (chainV hbwx.out ((hbm.out.trans (hby.out.mono hbm.out.size))))
    clear hAll
    go_wp2
    go_loopw [10, 12] (fun v10 vi wr => ∃ i : Nat, i ≤ M ∧ v10 = .int .i64 (i : Int) ∧ vi = .int .i64 (i : Int) ∧ wr = wc) (fun _ vi _ => M - (intOf vi).toNat)
    case atStart => exact ⟨0, Nat.zero_le _, rfl, rfl, rfl⟩
    case round =>
      obtain ⟨i, hi, rfl, rfl, rfl⟩ := hrel
      by_cases hlt : i < M
      · go_wp2
        all_goals first | omega | skip
        go_roundw
        case rel => exact ⟨i + 1, by omega, by go_num, by go_num, by trivial⟩
        case measure => simp [intOf]; omega
      · obtain ⟨_, z0, z1, _, _⟩ := hBc.out.q1
        go_wp2_with (first
          | (go_at_call 10; (with_reducible refine (hV1.out _ _ _ hBc.out.h1 hMap0.out).mono ?_); rintro e w1 ⟨hb1, rfl⟩; have hBd := Hid.intro (hBc.out.below hb1); have hMap1 := Hid.intro (hMap0.out.below hb1 hMap0.out.lt); have hbw1 := Hid.intro (chainV hbwc.out hb1); clear hb1; obtain ⟨_, s0, s1, _, _⟩ := hBd.out.q2)
          | (go_at_call 10; (with_reducible refine (hV2.out _ _ _ hBd.out.h2 hMap1.out).mono ?_); rintro e w2 ⟨hb2, r2, o2, rfl⟩; have hBe := Hid.intro (hBd.out.below hb2); have hMap2 := Hid.intro (hMap1.out.below hb2 hMap1.out.lt); have hbw2 := Hid.intro (chainV hbw1.out hb2); clear hb2; obtain ⟨_, t0, t1, _, _⟩ := hBe.out.q1; obtain ⟨_, t2, t3, _, _⟩ := hBe.out.q2)
          | (go_at_call 24; (with_reducible refine (hAd.out _ hBe.out.h1 hBe.out.h2).mono ?_); rintro e w3 ⟨hb3, a6, c6, m6, rfl, hm6, hh6⟩; have hBf := Hid.intro (hBe.out.below hb3); have hMap3 := Hid.intro (hMap2.out.below hb3 hMap2.out.lt); have hbw3 := Hid.intro (chainV hbw2.out hb3); replace hm6 := Hid.intro hm6; replace hh6 := Hid.intro hh6; clear hb3)
          | (go_at_call 10; (with_reducible refine (hV3.out _ _ _ _ _ _ hm6.out hh6.out hMap3.out).mono ?_); rintro e w4 ⟨hb4, r4, o4, rfl⟩; have hBg := Hid.intro (hBf.out.below hb4); have hMap4 := Hid.intro (hMap3.out.below hb4 hMap3.out.lt); have hbw4 := Hid.intro (chainV hbw3.out hb4); clear hb4; obtain ⟨_, p0, p1, _, _⟩ := hBg.out.q1)
          | (go_at_call 26; (with_reducible refine (hTi.out _ hBg.out.h1).mono ?_); rintro e w5 ⟨hb5, a7, c7, m7, rfl, hm7, hh7⟩; have hBh := Hid.intro (hBg.out.below hb5); have hMap5 := Hid.intro (hMap4.out.below hb5 hMap4.out.lt); have hbw5 := Hid.intro (chainV hbw4.out hb5); replace hm7 := Hid.intro hm7; replace hh7 := Hid.intro hh7; clear hb5)
          | (go_at_call 10; (with_reducible refine (hV4.out _ _ _ _ _ _ hm7.out hh7.out hMap5.out).mono ?_); rintro e w6 ⟨hb6, r6, o6, rfl⟩; have hBi := Hid.intro (hBh.out.below hb6); have hbw6 := Hid.intro (chainV hbw5.out hb6); clear hb6; obtain ⟨_, n0, n1', _, _⟩ := hBi.out.q1)
          | (go_at_call 14; (with_reducible refine (known_any _ hBi.out.P).mono ?_); rintro e wk ⟨hbk, rfl⟩; have hbwk := Hid.intro (chainV hbw6.out hbk); clear hbk))
        all_goals first | omega | skip
        all_goals go_ret
        all_goals exact ⟨hbwk.out, rfl⟩
end Go.Proofs.YtijdjljnppkhmaaDoor
