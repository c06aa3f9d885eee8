/- spandrelkeep's CopyUnit. -/
import Derived.Test.YtmndccbeddaphaaGreatDoorSp
import Derived.Test.YtmndccbeddaphaaGreatDoorOrd4
import Derived.Test.YtmndccbeddaphaaGreatDoorOrd14
import Derived.Test.YtmndccbeddaphaaGreatDoorOrd20
import Derived.Test.YtmndccbeddaphaaGreatDoorZTmMem
import Derived.Test.YtmndccbeddaphaaGreatDoorRgL
namespace Go.Proofs.YtmndccbeddaphaaGreatDoor
open Go.ChangeShapes Go.WideShapes Go.ChangeAt Go.RowKit Go.Sort
set_option linter.unusedVariables false
set_option linter.unusedSimpArgs false
set_option maxRecDepth 100000
def FI (ta da : Option Addr) (r : Nat) (k : Nat) (T : TypeId) : Prop := T = 107 ∨ (T = 86 ∧ ((0 < r ∧ ta = some ⟨k, 0, none⟩) ∨ (1 < r ∧ da = some ⟨k, 0, none⟩)))
def FE (k : Nat) (T : TypeId) : Prop := T = 107 ∨ T = 86 ∨ T = 90
theorem FI.up {ta da : Option Addr} {r : Nat} (k : Nat) (T : TypeId) (h : FI ta da r k T) : FI ta da (r + 1) k T := by
  rcases h with h | ⟨h, h2⟩
  · exact .inl h
  · refine .inr ⟨h, ?_⟩
    rcases h2 with h2 | h2
    · exact .inl ⟨by omega, h2.2⟩
    · exact .inr ⟨by omega, h2.2⟩
theorem row_cell {w : World} {g : Nat} {cur : Array Value} {T : TypeId} (hb : w.heap[g]? = some (.cells cur T (0, 0))) {m : Nat} (hm : m < cur.size) : ∃ v, w.cell? ⟨g, m, none⟩ = some v := ⟨cur[m], by rw [cell_of_row w g m cur T (0, 0) hb]; exact Array.getElem?_eq_getElem hm⟩
set_option maxHeartbeats 16000000 in
theorem spoil_any (ta da ea ga : Option Addr) (n1 tc n2 dc n3 ec n4 gc lo hi : Nat) (w : World) (b1 : n1 ≤ 1100000) (b2 : n2 ≤ 1100000) (b3 : n3 ≤ 1100000) (b4 : n4 ≤ 1100000)
    (hT : SRw w lo hi 86 10 7 ta n1 0) (hD : SRw w lo hi 86 10 7 da n2 0) (hE : SRw w lo hi 90 3 1 ea n3 0) (hG : SGl w lo hi ga n4) (hne : ∀ g, ta = some ⟨g, 0, none⟩ → da ≠ some ⟨g, 0, none⟩) (hh : hi ≤ w.heap.size) :
    Calls Tryz.prog 23 #[.agg #[.slice ta n1 tc, .slice da n2 dc, .slice ea n3 ec, .slice ga n4 gc]] w fun e w' => e = .returned (.tuple #[]) ∧ Spx lo hi (fun _ _ => True) w w' := by
  have hB2 : Below w.heap.size w ((w.alloc (.cells #[.slice ta n1 tc, .slice da n2 dc, .slice ea n3 ec, .slice ga n4 gc] 30)).alloc (.cells #[.slice ta n1 tc, .slice da n2 dc] 26)) := (below_alloc w _).alloc (by simp) _
  have hbox := (two_rows' w #[.slice ta n1 tc, .slice da n2 dc, .slice ea n3 ec, .slice ga n4 gc] #[.slice ta n1 tc, .slice da n2 dc] 30 26).1
  have hlst := (two_rows' w #[.slice ta n1 tc, .slice da n2 dc, .slice ea n3 ec, .slice ga n4 gc] #[.slice ta n1 tc, .slice da n2 dc] 30 26).2
  obtain ⟨W2, hW2⟩ : ∃ W2, ((w.alloc (.cells #[.slice ta n1 tc, .slice da n2 dc, .slice ea n3 ec, .slice ga n4 gc] 30)).alloc (.cells #[.slice ta n1 tc, .slice da n2 dc] 26)) = W2 := ⟨_, rfl⟩
  rw [hW2] at hB2 hbox hlst
  have hK : Hid (∀ F W, Spx lo hi F W2 W → (W.cell? ⟨w.heap.size, 0, none⟩ = some (.slice ta n1 tc) ∧ W.cell? ⟨w.heap.size, 1, none⟩ = some (.slice da n2 dc) ∧ W.cell? ⟨w.heap.size, 2, none⟩ = some (.slice ea n3 ec) ∧ W.cell? ⟨w.heap.size, 3, none⟩ = some (.slice ga n4 gc)) ∧ W.cell? ⟨w.heap.size + 1, 0, none⟩ = some (.slice ta n1 tc) ∧ W.cell? ⟨w.heap.size + 1, 1, none⟩ = some (.slice da n2 dc)) := fun F W hs => by
    have h1 := (hs.out _ (blk_lt hbox) (.inr hh)).trans hbox
    have h2 := (hs.out _ (blk_lt hlst) (.inr (by omega))).trans hlst
    exact ⟨four_read h1, (cell_blockT h2 0).trans rfl, (cell_blockT h2 1).trans rfl⟩
  have hT2 : Hid (SRw W2 lo hi 86 10 7 ta n1 0) := hT.keep (spx_below (F := fun _ _ => False) hB2) (fun _ _ h => h)
  have hD2 : Hid (SRw W2 lo hi 86 10 7 da n2 0) := hD.keep (spx_below (F := fun _ _ => False) hB2) (fun _ _ h => h)
  have hE2 : Hid (SRw W2 lo hi 90 3 1 ea n3 0) := hE.keep (spx_below (F := fun _ _ => False) hB2) (fun _ _ h => h)
  have hG2 : Hid (SGl W2 lo hi ga n4) := hG.keep (spx_below (F := fun _ _ => False) hB2)
  have hneH := Hid.intro hne
  have hBH := Hid.intro hB2
  clear hT hD hE hG hne hB2 hbox hlst
  go_enter Tryz.func23, Tryz.ntmps23
  go_wp2
  all_goals first | omega | skip
  generalize ((w.alloc (.cells #[.slice ta n1 tc, .slice da n2 dc, .slice ea n3 ec, .slice ga n4 gc] 30)).alloc (.cells #[.slice ta n1 tc, .slice da n2 dc] 26)) = W9 at *
  subst hW2
  go_loopw [15] (fun v15 wr => ∃ r : Nat, r ≤ 2 ∧ v15 = .int .i64 (r : Int) ∧ Hid (Spx lo hi (FI ta da r) W9 wr)) (fun v15 wr => 2 - (intOf v15).toNat)
  case atStart => exact ⟨0, by omega, rfl, Spx.refl _ _ _ _⟩
  case round =>
    obtain ⟨r, hr, rfl, hS⟩ := hrel
    by_cases hr2 : r < 2
    · obtain ⟨a, n, c, hcell, hrow, hbn, hFn⟩ : ∃ a n c, wr.cell? ⟨w.heap.size + 1, r, none⟩ = some (.slice a n c) ∧ Hid (SRw wr lo hi 86 10 7 a n 0) ∧ n ≤ 1100000 ∧ Hid (∀ g, a = some ⟨g, 0, none⟩ → FI ta da (r + 1) g 86) := by
        have hk := hK.out _ _ hS.out
        have : r = 0 ∨ r = 1 := by omega
        rcases this with rfl | rfl
        · exact ⟨ta, n1, tc, hk.2.1, hT2.out.keep hS.out (fun g hg h => by rcases h with h | ⟨_, h | h⟩ <;> first | (exact absurd h (by decide)) | omega), b1, fun g hg => .inr ⟨rfl, .inl ⟨by omega, hg⟩⟩⟩
        · exact ⟨da, n2, dc, hk.2.2, hD2.out.keep hS.out (fun g hg h => by rcases h with h | ⟨_, h | h⟩ <;> first | (exact absurd h (by decide)) | (exact hneH.out g h.2 hg) | omega), b2, fun g hg => .inr ⟨rfl, .inr ⟨by omega, hg⟩⟩⟩
      have hS1 : Hid (Spx lo hi (FI ta da (r + 1)) W9 wr) := hS.out.mono (fun k T h => h.up k T)
      have r0 : (0 : Int) ≤ (r : Int) := by omega
      have r1 : (r : Int) < 2 := by omega
      clear hS
      go_wp2
      all_goals first | omega | skip
      go_loopw [4] (fun v4 wq => ∃ i : Nat, i ≤ n ∧ v4 = .int .i64 (i : Int) ∧ Hid (Spx lo hi (FI ta da (r + 1)) W9 wq) ∧ Hid (SRw wq lo hi 86 10 7 a n i)) (fun v4 wq => n - (intOf v4).toNat)
      case atStart => exact ⟨0, by omega, rfl, hS1, hrow⟩
      case round =>
        obtain ⟨i, hi', rfl, hS2, hR⟩ := hrel
        by_cases hlt : i < n
        · obtain ⟨g, ha, g1, g2, hM⟩ := hR.out hlt
          subst ha
          have hM' := Hid.intro hM
          obtain ⟨cur, hb, hl, hj⟩ := hM
          obtain ⟨v, hv, hTm⟩ := hj i (Nat.le_refl _) hlt
          have hTm' := Hid.intro hTm
          obtain ⟨ta2, tn, tc2, hve, htn, _⟩ := hTm
          subst hve
          have c7 : wr.cell? ⟨g, i * 10 + 7, none⟩ = some (.slice ta2 tn tc2) := (cell_of_row wr g _ cur 86 (0, 0) hb).trans hv
          have hFg := hFn.out g rfl
          have hsz : i * 10 + 10 ≤ cur.size := by omega
          have i0 : (0 : Int) ≤ (i : Int) := by omega
          have i1 : (i : Int) < (n : Int) := by omega
          replace hb := Hid.intro hb
          have hvH := Hid.intro hv
          clear hj hv hl hR hrow hS1 hcell
          go_wp2
          all_goals first | omega | skip
          obtain ⟨wq, hwq⟩ : ∃ wq, wr = wq := ⟨_, rfl⟩
          rw [hwq] at hS2 hM' hb c7 hTm' ⊢
          clear hwq
          go_loopw [5] (fun v5 wz => ∃ k : Nat, k ≤ tn ∧ v5 = .int .i64 (k : Int) ∧ Hid (Spx lo hi (fun _ T => T = 107) wq wz)) (fun v5 wz => tn - (intOf v5).toNat)
          case atStart => exact ⟨0, by omega, rfl, Spx.refl _ _ _ _⟩
          case round =>
            obtain ⟨k, hk, rfl, hS3⟩ := hrel
            have hbz := (hS3.out.far g cur 86 hb.out (by decide)).trans hb.out
            clear c7
            have c7 : wr.cell? ⟨g, i * 10 + 7, none⟩ = some (.slice ta2 tn tc2) := (cell_of_row wr g _ cur 86 (0, 0) hbz).trans hvH.out
            by_cases hk2 : k < tn
            · obtain ⟨a3, n3', c3, he3, _, hgo⟩ := hTm'.out.keep hS3.out
              cases he3
              obtain ⟨gt, ct, hat, t1, t2, tb, tl⟩ := hgo (by omega)
              subst hat
              obtain ⟨y0, e0⟩ := row_cell tb (m := k * 2) (by omega)
              obtain ⟨y1, e1⟩ := row_cell tb (m := k * 2 + 1) (by omega)
              have f0 := frozen_of_row wr gt (k * 2) ct 107 tb
              have f1 := frozen_of_row wr gt (k * 2 + 1) ct 107 tb
              have k0 : (0 : Int) ≤ (k : Int) := by omega
              have k1 : (k : Int) < (tn : Int) := by omega
              have hset : Hid (∀ y z, Spx lo hi (fun _ T => T = 107) wq ((wr.setCell ⟨gt, k * 2, none⟩ y).setCell ⟨gt, k * 2 + 1, none⟩ z)) := fun y z => hS3.out.trans ((Spx.set (F := fun _ T => T = 107) tb t1 t2 rfl (k * 2) y).trans (Spx.set (F := fun _ T => T = 107) (row_set tb (k * 2) y).1 t1 t2 rfl (k * 2 + 1) z))
              clear hgo tb tl hbz
              go_wp2
              all_goals first | omega | skip
              go_roundw
              case rel => exact ⟨k + 1, by omega, by go_num, hset.out _ _⟩
              case measure => simp [intOf]; omega
            · have hin : tn = k := by omega
              subst hin
              have k2 : ¬ ((tn : Int) < (tn : Int)) := by omega
              obtain ⟨y0, e0⟩ := row_cell hbz (m := i * 10) (by omega)
              obtain ⟨y1, e1⟩ := row_cell hbz (m := i * 10 + 1) (by omega)
              obtain ⟨y2, e2⟩ := row_cell hbz (m := i * 10 + 2) (by omega)
              obtain ⟨y3, e3⟩ := row_cell hbz (m := i * 10 + 3) (by omega)
              obtain ⟨y4, e4⟩ := row_cell hbz (m := i * 10 + 4) (by omega)
              obtain ⟨y5, e5⟩ := row_cell hbz (m := i * 10 + 5) (by omega)
              obtain ⟨y6, e6⟩ := row_cell hbz (m := i * 10 + 6) (by omega)
              obtain ⟨y8, e8⟩ := row_cell hbz (m := i * 10 + 8) (by omega)
              obtain ⟨y9, e9⟩ := row_cell hbz (m := i * 10 + 9) (by omega)
              have fz := fun m => frozen_of_row wr g m cur 86 hbz
              have hend := Hid.intro (spx_row (F := FI ta da (r + 1)) g1 g2 hFg [.int .i64 (-9), .string ⟨#[]⟩, .int .i64 0, .int .i64 0, .int .i64 0, .int .i32 0, .int .i64 0, .slice none 0 0, .int .u32 0, .int .i64 0] (w := wr) (i * 10) (hM'.out.keep hS3.out (by decide)).up (by simp; omega))
              have hto : Hid (Spx lo hi (FI ta da (r + 1)) W9 wr) := hS2.out.trans (hS3.out.mono (fun k T h => .inl h))
              clear hbz hS3
              go_wp2
              all_goals first | omega | skip
              go_roundw
              case rel => exact ⟨i + 1, by omega, by go_num, hto.out.trans hend.out.2, fun _ => ⟨g, rfl, g1, g2, hend.out.1⟩⟩
              case measure => simp [intOf]; omega
        · have hin : n = i := by omega
          subst hin
          have k2 : ¬ ((n : Int) < (n : Int)) := by omega
          clear hR hrow hS1 hcell
          go_wp2
          all_goals first | omega | skip
          go_roundw
          case rel => exact ⟨r + 1, by omega, by go_num, hS2⟩
          case measure => simp [intOf]; omega
    · have hSE : Hid (Spx lo hi FE W9 wr) := hS.out.mono (fun k T h => by rcases h with h | h; exact .inl h; exact .inr (.inl h.1))
      have hr3 : r = 2 := by omega
      subst hr3
      have hREq : Hid (SRw wr lo hi 90 3 1 ea n3 0) := hE2.out.keep hS.out (fun g hg h => by rcases h with h | ⟨h, _⟩ <;> exact absurd h (by decide))
      clear hS
      go_wp2
      all_goals first | omega | skip
      go_loopw [6] (fun v6 wq => ∃ i : Nat, i ≤ n3 ∧ v6 = .int .i64 (i : Int) ∧ Hid (Spx lo hi FE W9 wq) ∧ Hid (SRw wq lo hi 90 3 1 ea n3 i)) (fun v6 wq => n3 - (intOf v6).toNat)
      case atStart => exact ⟨0, by omega, rfl, hSE, hREq⟩
      case round =>
        clear hSE hREq
        obtain ⟨i, hi', rfl, hS2, hR⟩ := hrel
        obtain ⟨⟨c0, c1, c2, c3⟩, _, _⟩ := hK.out _ _ hS2.out
        clear c0 c1 c3
        by_cases hlt : i < n3
        · obtain ⟨g, ha, g1, g2, hM⟩ := hR.out hlt
          subst ha
          have hM' := Hid.intro hM
          obtain ⟨cur, hb, hl, hj⟩ := hM
          obtain ⟨v, hv, hTm⟩ := hj i (Nat.le_refl _) hlt
          have hTm' := Hid.intro hTm
          obtain ⟨ta2, tn, tc2, hve, htn, _⟩ := hTm
          subst hve
          have c7 : wr.cell? ⟨g, i * 3 + 1, none⟩ = some (.slice ta2 tn tc2) := (cell_of_row wr g _ cur 90 (0, 0) hb).trans hv
          have hsz : i * 3 + 3 ≤ cur.size := by omega
          have i0 : (0 : Int) ≤ (i : Int) := by omega
          have i1 : (i : Int) < (n3 : Int) := by omega
          replace hb := Hid.intro hb
          have hvH := Hid.intro hv
          clear hj hv hl hR
          go_wp2
          all_goals first | omega | skip
          obtain ⟨wq, hwq⟩ : ∃ wq, wr = wq := ⟨_, rfl⟩
          rw [hwq] at hS2 hM' hb c7 hTm' c2 ⊢
          clear hwq
          go_loopw [7] (fun v7 wz => ∃ k : Nat, k ≤ tn ∧ v7 = .int .i64 (k : Int) ∧ Hid (Spx lo hi (fun _ T => T = 107) wq wz)) (fun v7 wz => tn - (intOf v7).toNat)
          case atStart => exact ⟨0, by omega, rfl, Spx.refl _ _ _ _⟩
          case round =>
            obtain ⟨k, hk, rfl, hS3⟩ := hrel
            have hbz := (hS3.out.far g cur 90 hb.out (by decide)).trans hb.out
            clear c7 c2
            have hto : Hid (Spx lo hi FE W9 wr) := hS2.out.trans (hS3.out.mono (fun k T h => .inl h))
            obtain ⟨⟨c0, c1, c2, c3⟩, _, _⟩ := hK.out _ _ hto.out
            clear c0 c1 c3
            have c7 : wr.cell? ⟨g, i * 3 + 1, none⟩ = some (.slice ta2 tn tc2) := (cell_of_row wr g _ cur 90 (0, 0) hbz).trans hvH.out
            by_cases hk2 : k < tn
            · obtain ⟨a3, n3', c3, he3, _, hgo⟩ := hTm'.out.keep hS3.out
              cases he3
              obtain ⟨gt, ct, hat, t1, t2, tb, tl⟩ := hgo (by omega)
              subst hat
              obtain ⟨y0, e0⟩ := row_cell tb (m := k * 2) (by omega)
              obtain ⟨y1, e1⟩ := row_cell tb (m := k * 2 + 1) (by omega)
              have f0 := frozen_of_row wr gt (k * 2) ct 107 tb
              have f1 := frozen_of_row wr gt (k * 2 + 1) ct 107 tb
              have k0 : (0 : Int) ≤ (k : Int) := by omega
              have k1 : (k : Int) < (tn : Int) := by omega
              have hset : Hid (∀ y z, Spx lo hi (fun _ T => T = 107) wq ((wr.setCell ⟨gt, k * 2, none⟩ y).setCell ⟨gt, k * 2 + 1, none⟩ z)) := fun y z => hS3.out.trans ((Spx.set (F := fun _ T => T = 107) tb t1 t2 rfl (k * 2) y).trans (Spx.set (F := fun _ T => T = 107) (row_set tb (k * 2) y).1 t1 t2 rfl (k * 2 + 1) z))
              clear hgo tb tl hbz hto
              go_wp2
              all_goals first | omega | skip
              go_roundw
              case rel => exact ⟨k + 1, by omega, by go_num, hset.out _ _⟩
              case measure => simp [intOf]; omega
            · have hin : tn = k := by omega
              subst hin
              have k2 : ¬ ((tn : Int) < (tn : Int)) := by omega
              obtain ⟨y0, e0⟩ := row_cell hbz (m := i * 3) (by omega)
              obtain ⟨y2, e2⟩ := row_cell hbz (m := i * 3 + 2) (by omega)
              have fz := fun m => frozen_of_row wr g m cur 90 hbz
              have hend := Hid.intro (spx_row (F := FE) g1 g2 (.inr (.inr rfl)) [.string ⟨#[115, 112, 111, 105, 108, 116]⟩, .slice none 0 0, .int .u32 0] (w := wr) (i * 3) (hM'.out.keep hS3.out (by decide)).up (by simp; omega))
              clear hbz hS3
              go_wp2
              all_goals first | omega | skip
              go_roundw
              case rel => exact ⟨i + 1, by omega, by go_num, hto.out.trans hend.out.2, fun _ => ⟨g, rfl, g1, g2, hend.out.1⟩⟩
              case measure => simp [intOf]; omega
        · have hin : n3 = i := by omega
          subst hin
          have k2 : ¬ ((n3 : Int) < (n3 : Int)) := by omega
          have hto : Hid (Spx lo hi (fun _ _ => True) W9 wr) := hS2.out.mono (fun _ _ _ => trivial)
          clear hR hS2
          go_wp2
          all_goals first | omega | skip
          clear c2
          go_loopw [8] (fun v8 wq => ∃ i : Nat, i ≤ n4 ∧ v8 = .int .i64 (i : Int) ∧ Hid (Spx lo hi (fun _ _ => True) W9 wq)) (fun v8 wq => n4 - (intOf v8).toNat)
          case atStart => exact ⟨0, by omega, rfl, hto⟩
          case round =>
            clear hto
            obtain ⟨i, hi2, rfl, hS2⟩ := hrel
            obtain ⟨⟨c0, c1, c2, c3⟩, _, _⟩ := hK.out _ _ hS2.out
            clear c0 c1 c2
            by_cases hlt4 : i < n4
            · obtain ⟨g, cur, ha, g1, g2, hb, hl⟩ := hG2.out.keep hS2.out (by omega)
              subst ha
              obtain ⟨y0, e0⟩ := row_cell hb (m := i) (by omega)
              have f0 := frozen_of_row wr g i cur 9 hb
              have i0 : (0 : Int) ≤ (i : Int) := by omega
              have i1 : (i : Int) < (n4 : Int) := by omega
              have hset : Hid (∀ y, Spx lo hi (fun _ _ => True) W9 (wr.setCell ⟨g, i, none⟩ y)) := fun y => hS2.out.trans (Spx.set (F := fun _ _ => True) hb g1 g2 trivial i y)
              clear hb hl
              go_wp2
              all_goals first | omega | skip
              go_roundw
              case rel => exact ⟨i + 1, by omega, by go_num, hset.out _⟩
              case measure => simp [intOf]; omega
            · have hin : n4 = i := by omega
              subst hin
              have k3 : ¬ ((n4 : Int) < (n4 : Int)) := by omega
              go_wp2
              all_goals first | omega | skip
              go_end0
              exact ⟨rfl, (spx_below hBH.out).trans hS2.out⟩
end Go.Proofs.YtmndccbeddaphaaGreatDoor
namespace Go.Proofs.YtmndccbeddaphaaGreatDoor
open Go.ChangeShapes Go.WideShapes Go.ChangeAt Go.RowKit Go.Sort
set_option linter.unusedVariables false
set_option linter.unusedSimpArgs false
set_option maxRecDepth 100000
theorem step_fn1 {ops : Array Oper} {o : Oper} {a : Act} {K : Act → World → Prop} {Q : Exit → Act → World → Prop} {E : Prop} (P : Program) (w : World) (hgd : o.guard = none) (f : FuncId) (x : Operand) (ts : Array TypeId)
    (ho : o.op = .call { callee := .value (.func f), args := #[x], argTypes := ts }) (v : Value) (hx : a.eval x = v) (fn : Func) (hf : P.funcs[f]? = some fn) (hn : fn.name ≠ "runtime.NumGoroutine") (hb : fn.body ≠ none)
    (hK : Calls P f #[v] w fun e w' => ∃ v, e = .returned v ∧ K (a.put o.dst v) w') :
    if Region.wanted o (yielded ops a.tmps) = true then Oper.wp P o a w K Q else E := by
  have hw : Region.wanted o (yielded ops a.tmps) = true := by simp [Region.wanted, hgd]
  rw [if_pos hw]
  have hrun : (execOp a.eval o).run P w = .ok (.enter f #[v]) w := by
    simp [execOp, ho, resolve, invoke, callFunc, hx, hf, hn, hb, Deferred.ofValue, Act.eval]
    simpa [Act.eval] using hx
  unfold Oper.wp
  rw [hrun, Oper.upon_enter]
  refine hK.mono ?_
  rintro e w' ⟨v, rfl, h⟩
  exact h
theorem blk_other {w : World} {lo : Nat} {T T' : TypeId} {sz : Nat} {v : Value} {n : Nat} {xs : List Value} {b : Nat} {cs : Array Value} {r : Nat × Nat} (h : w.ownsRow lo T sz v n xs) (hb : w.heap[b]? = some (.cells cs T' r)) (hT : T ≠ T') : v.ownBlock ≠ some b := by
  intro e
  obtain ⟨cur, hc⟩ := own_type h e
  rw [hb] at hc
  injection hc with hc
  injection hc with _ hc
  exact hT hc.symm
theorem ItSrc.below {w w' : World} {a : Option Addr} {l : List Itm} (h : ItSrc w a l) (hb : Below w.heap.size w w') : ItSrc w' a l := by
  rcases h with h | ⟨g, o, ha, hg, h⟩
  · exact .inl h
  · refine .inr ⟨g, o, ha, Nat.lt_of_lt_of_le hg hb.size, fun i x hi => ?_⟩
    obtain ⟨va, vc, h1, h2⟩ := h i x hi
    exact ⟨va, vc, h1.below hb hg, h2.below hb⟩
theorem ItOwn.below {lo : Nat} {w w' : World} {v : Value} {p : List (Itm × Value)} (h : ItOwn lo w v p) (hb : Below w.heap.size w w') : ItOwn lo w' v p :=
  ⟨own_keptB h.row hb, fun q hq => own_keptB (h.each q hq) hb⟩
theorem EqOw.below {lo : Nat} {w w' : World} {v : Value} {p : List (Eqv × Value)} (h : EqOw lo w v p) (hb : Below w.heap.size w w') : EqOw lo w' v p :=
  ⟨own_keptB h.row hb, fun q hq => own_keptB (h.each q hq) hb⟩
theorem EqOw.start (lo : Nat) (w : World) : EqOw lo w (.slice none 0 0) [] := ⟨World.ownsRow_nil _ _ _ _, fun q h => by cases h⟩
theorem f63_name : Tryz.f51.name ≠ "runtime.NumGoroutine" := by decide
theorem f63_body : Tryz.f51.body ≠ none := by simp [Tryz.f51]
def EqSrc (w : World) (a : Option Addr) (l : List (List UInt8 × Lin)) : Prop := l = [] ∨ ∃ g o, a = some ⟨g, o, none⟩ ∧ g < w.heap.size ∧ ∀ (i : Nat) (q : List UInt8 × Lin), l[i]? = some q → ∃ va vc, w.cell? ⟨g, o + i * 3, none⟩ = some (.string (str q.1)) ∧ w.cell? ⟨g, o + i * 3 + 1, none⟩ = some (.slice va q.2.terms.length vc) ∧ w.cell? ⟨g, o + i * 3 + 2, none⟩ = some (.int .u32 q.2.const) ∧ Src w (.slice va q.2.terms.length vc) q.2.terms.length (rowT q.2.terms)
theorem EqSrc.below {w w' : World} {a : Option Addr} {l : List (List UInt8 × Lin)} (h : EqSrc w a l) (hb : Below w.heap.size w w') : EqSrc w' a l := by
  rcases h with h | ⟨g, o, ha, hg, h⟩
  · exact .inl h
  · refine .inr ⟨g, o, ha, Nat.lt_of_lt_of_le hg hb.size, fun i x hi => ?_⟩
    obtain ⟨va, vc, h1, h2, h3, h4⟩ := h i x hi
    exact ⟨va, vc, (hb.cell (p := ⟨g, _, none⟩) hg).trans h1, (hb.cell (p := ⟨g, _, none⟩) hg).trans h2, (hb.cell (p := ⟨g, _, none⟩) hg).trans h3, h4.below hb⟩
structure UnitSrc (w : World) (ta : Option Addr) (da : Option Addr) (ea : Option Addr) (ga : Option Addr) (gc : Nat) (u : UVal) : Prop where
  text : ItSrc w ta u.text
  data : ItSrc w da u.data
  equs : EqSrc w ea u.equs
  globs : Src w (.slice ga u.globs.length gc) u.globs.length (u.globs.map encStr)
theorem UnitSrc.below {w w' : World} {ta da ea ga : Option Addr} {gc : Nat} {u : UVal} (h : UnitSrc w ta da ea ga gc u) (hb : Below w.heap.size w w') : UnitSrc w' ta da ea ga gc u := ⟨h.text.below hb, h.data.below hb, h.equs.below hb, h.globs.below hb⟩
theorem chn {w w1 w2 : World} (h1 : Below w.heap.size w w1) (h2 : Below w1.heap.size w1 w2) : Below w.heap.size w w2 := h1.trans (h2.mono h1.size)
theorem ItOwn.off {w w' : World} {lo : Nat} {v : Value} {p : List (Itm × Value)} (h : ItOwn lo w v p) {O : Nat} {cur : Array Value} {T2 : TypeId} (hO : w.heap[O]? = some (.cells cur T2 (0, 0))) (h1 : (86 : TypeId) ≠ T2) (h2 : (107 : TypeId) ≠ T2) (ho : ∀ {T : TypeId} {sz : Nat} {v : Value} {n : Nat} {xs : List Value}, w.ownsRow lo T sz v n xs → T ≠ T2 → w'.ownsRow lo T sz v n xs) : ItOwn lo w' v p :=
  ⟨ho h.row h1, fun q hq => ho (h.each q hq) h2⟩
structure UCopy (lo : Nat) (w : World) (u : UVal) (tv dv ev gv : Value) (pt pd : List (Itm × Value)) (pe : List ((List UInt8 × Lin) × Value)) : Prop where
  text : ItOwn lo w tv pt
  data : ItOwn lo w dv pd
  equs : EqOw lo w ev pe
  globs : w.ownsRow lo 9 1 gv u.globs.length (u.globs.map encStr)
  et : pt.map (·.1) = u.text
  ed : pd.map (·.1) = u.data
  ee : pe.map (·.1) = u.equs
theorem own_voidB {w : World} {N lo : Nat} {T : TypeId} {sz : Nat} (h : w.heap[N]? = some (.cells #[] T (0, 0))) (hl : lo ≤ N) : w.ownsRow lo T sz (.slice (some ⟨N, 0, none⟩) 0 0) 0 [] :=
  ⟨by simp, .inr ⟨N, 0, #[], rfl, hl, h, Nat.le_refl _, by decide, by simp, by simp⟩⟩
theorem own_off {w w' : World} {lo : Nat} {T T2 : TypeId} {sz : Nat} {v : Value} {n : Nat} {xs : List Value} (h : w.ownsRow lo T sz v n xs) {O : Nat} {cur : Array Value} (hO : w.heap[O]? = some (.cells cur T2 (0, 0))) (hT : T ≠ T2) (hg : w.grownBy w' (some O)) : w'.ownsRow lo T sz v n xs := by
  refine ⟨h.1, ?_⟩
  rcases h.2 with h | ⟨g, cap, cu, h1, hb, hh, hr⟩
  · exact .inl h
  · refine .inr ⟨g, cap, cu, h1, hb, ?_, hr⟩
    rw [hg.block g (Array.getElem?_eq_some_iff.1 hh).1 (fun e => ?_)]
    · exact hh
    · cases e
      rw [hh] at hO
      cases hO
      exact hT rfl
theorem szA (w : World) (o : Obj) : (w.alloc o).heap.size = w.heap.size + 1 := by simp
theorem szD (w : World) : w.drew.heap.size = w.heap.size := rfl
theorem heap_newK (w : World) (cs : Array Value) (T : TypeId) {k : Nat} (h : k = w.heap.size) : (w.alloc (.cells cs T)).heap[k]? = some (.cells cs T (0, 0)) := by subst h; exact heap_alloc_new w _
theorem step_void {ops : Array Oper} {o : Oper} {a : Act} {K : Act → World → Prop} {Q : Exit → Act → World → Prop} {E : Prop} (Z : World) (hgd : o.guard = none) (s x : Operand)
    (ho : o.op = .call { callee := .builtin .append, args := #[s, x], argTypes := #[28, 28] }) (lo N : Nat)
    (hs : a.eval s = .slice (some ⟨N, 0, none⟩) 0 0) (hv : Z.heap[N]? = some (.cells #[] 9 (0, 0))) (hl : lo ≤ N)
    (ga : Option Addr) (n4 gc : Nat) (gl : List Value) (hx : a.eval x = .slice ga n4 gc) (hsrc : Src Z (.slice ga n4 gc) n4 gl) (hn : gl.length = n4 * 1) (h1 : ∀ v ∈ gl, v.oneCell' = true) (h4 : n4 ≤ 1100000)
    (hK : ∀ a3 e3 w3, w3.ownsRow lo 9 1 (.slice a3 n4 e3) n4 gl → Below lo Z w3 → (∀ (k : Nat) (cur : Array Value) (T : TypeId), Z.heap[k]? = some (.cells cur T (0, 0)) → T ≠ 9 → w3.heap[k]? = Z.heap[k]?) → K (a.put o.dst (.slice a3 n4 e3)) w3) :
    if Region.wanted o (yielded ops a.tmps) = true then Oper.wp Tryz.prog o a Z K Q else E := by
  obtain ⟨i0, hi9, hz0, hz1, hz2⟩ := info_parts info9
  have hown : Z.ownsRow lo 9 1 (.slice (some ⟨N, 0, none⟩) 0 0) 0 [] := own_voidB hv hl
  have hNl : N < Z.heap.size := (Array.getElem?_eq_some_iff.1 hv).1
  refine step_app (P := Tryz.prog) Z hgd s x 28 ho lo 9 i0 _ 1 16 Tryz.underlying28 hi9 hz0 hz1 hz2 rfl (by decide) _ 0 [] hs hown _ n4 gl hx hsrc hn h1 (by unfold maxLen; omega) (by omega) (by omega) ?_
  intro v' w3 h2 h3 h5
  obtain ⟨a3, e3, rfl⟩ := own_slice h2
  rw [Nat.zero_add, List.nil_append] at h2
  rw [Nat.zero_add]
  refine hK a3 e3 w3 h2 ((Below.refl lo Z).grown h3 (by omega) (fun j hj => by cases hj; exact hl)) (fun k cur T hk hT => h3.block k (Array.getElem?_eq_some_iff.1 hk).1 (fun e => ?_))
  cases e
  rw [hv] at hk
  cases hk
  exact hT rfl
theorem four_cells {w : World} {g : Nat} {x y z v : Value} {T : TypeId} (h : w.heap[g]? = some (.cells #[x, y, z, v] T (0, 0))) : w.cell? ⟨g, 0, none⟩ = some x ∧ w.cell? ⟨g, 1, none⟩ = some y ∧ w.cell? ⟨g, 2, none⟩ = some z ∧ w.cell? ⟨g, 3, none⟩ = some v := by
  refine ⟨?_, ?_, ?_, ?_⟩ <;> (rw [cell_of_row w g _ _ T (0, 0) h]; rfl)
theorem own_far {Z w3 : World} (hf : ∀ (k : Nat) (cur : Array Value) (T : TypeId), Z.heap[k]? = some (.cells cur T (0, 0)) → T ≠ 9 → w3.heap[k]? = Z.heap[k]?) {lo : Nat} {T : TypeId} {sz : Nat} {v : Value} {n : Nat} {xs : List Value} (h : Z.ownsRow lo T sz v n xs) (hT : T ≠ 9) : w3.ownsRow lo T sz v n xs := by
  refine ⟨h.1, ?_⟩
  rcases h.2 with h | ⟨g, cap, cu, h1, hb, hh, hr⟩
  · exact .inl h
  · exact .inr ⟨g, cap, cu, h1, hb, (hf g cu T hh hT).trans hh, hr⟩
theorem ItOwn.far {Z w3 : World} (hf : ∀ (k : Nat) (cur : Array Value) (T : TypeId), Z.heap[k]? = some (.cells cur T (0, 0)) → T ≠ 9 → w3.heap[k]? = Z.heap[k]?) {lo : Nat} {v : Value} {p : List (Itm × Value)} (h : ItOwn lo Z v p) : ItOwn lo w3 v p := ⟨own_far hf h.row (by decide), fun q hq => own_far hf (h.each q hq) (by decide)⟩
theorem keepo {Z w3 : World} {c : Nat} (hf : ∀ (k : Nat) (cur : Array Value) (T : TypeId), Z.heap[k]? = some (.cells cur T (0, 0)) → T ≠ 9 → w3.heap[k]? = Z.heap[k]?) (h : Z.heap[c]? = some (.cells #[.slice none 0 0, .slice none 0 0, .slice none 0 0, .slice none 0 0] 30 (0, 0))) : w3.heap[c]? = some (.cells #[.slice none 0 0, .slice none 0 0, .slice none 0 0, .slice none 0 0] 30 (0, 0)) := (hf c _ 30 h (by decide)).trans h
structure CuM (lo : Nat) (W0 : World) (O : Nat) (tv dv gv : Value) (pt pd : List (Itm × Value)) (ut ud : List Itm) (n4 : Nat) (gl : List Value) (wx : World) : Prop where
  bel : Below lo W0 wx
  blk : wx.heap[O]? = some (.cells #[tv, dv, .slice none 0 0, gv] 30 (0, 0))
  low : lo ≤ O
  text : ItOwn lo wx tv pt
  data : ItOwn lo wx dv pd
  et : pt.map (·.1) = ut
  ed : pd.map (·.1) = ud
  globs : wx.ownsRow lo 9 1 gv n4 gl
theorem cu_end {lo : Nat} {W0 w3 : World} {O : Nat} {tv dv gv : Value} {pt pd : List (Itm × Value)} {ut ud : List Itm} {n4 : Nat} {gl : List Value} (hB : Below lo W0 w3) (hl : lo ≤ O) (hO : w3.heap[O]? = some (.cells #[.slice none 0 0, .slice none 0 0, .slice none 0 0, .slice none 0 0] 30 (0, 0))) (hT : ItOwn lo w3 tv pt) (hD : ItOwn lo w3 dv pd) (hG : w3.ownsRow lo 9 1 gv n4 gl) (et : pt.map (·.1) = ut) (ed : pd.map (·.1) = ud) :
    CuM lo W0 O tv dv gv pt pd ut ud n4 gl ((((w3.setCell ⟨O, 0, none⟩ tv).setCell ⟨O, 1, none⟩ dv).setCell ⟨O, 2, none⟩ (.slice none 0 0)).setCell ⟨O, 3, none⟩ gv) := by
  obtain ⟨r0, g0⟩ := row_set hO 0 tv
  obtain ⟨r1, g1⟩ := row_set r0 1 dv
  obtain ⟨r2, g2⟩ := row_set r1 2 (.slice none 0 0)
  obtain ⟨r3, g3⟩ := row_set r2 3 gv
  have hg := grown_trans (grown_trans (grown_trans g0 g1) g2) g3
  have hlt : O < w3.heap.size := (Array.getElem?_eq_some_iff.1 hO).1
  exact ⟨((((hB.setCell (p := ⟨O, 0, none⟩) hl _).setCell (p := ⟨O, 1, none⟩) hl _).setCell (p := ⟨O, 2, none⟩) hl _).setCell (p := ⟨O, 3, none⟩) hl _), r3, hl, ⟨own_off hT.row hO (by decide) hg, fun q hq => own_off (hT.each q hq) hO (by decide) hg⟩, ⟨own_off hD.row hO (by decide) hg, fun q hq => own_off (hD.each q hq) hO (by decide) hg⟩, et, ed, own_off hG hO (by decide) hg⟩
structure CuL (lo : Nat) (W0 : World) (O : Nat) (tv dv gv : Value) (pt pd : List (Itm × Value)) (ut ud : List Itm) (n4 : Nat) (gl : List Value) (l : List (List UInt8 × Lin)) (i : Nat) (ev : Value) (pe : List ((List UInt8 × Lin) × Value)) (wx : World) : Prop where
  bel : Below lo W0 wx
  blk : wx.heap[O]? = some (.cells #[tv, dv, ev, gv] 30 (0, 0))
  low : lo ≤ O
  text : ItOwn lo wx tv pt
  data : ItOwn lo wx dv pd
  et : pt.map (·.1) = ut
  ed : pd.map (·.1) = ud
  globs : wx.ownsRow lo 9 1 gv n4 gl
  equs : EqOw lo wx ev pe
  ee : pe.map (·.1) = l.take i
structure CuS (lo : Nat) (W0 : World) (O : Nat) (tv dv gv : Value) (pt pd : List (Itm × Value)) (n4 : Nat) (gl : List Value) (ea2 : Option Addr) (i ec2 : Nat) (x : List UInt8 × Lin) (a1 : Option Addr) (tl e1 : Nat) (pe : List ((List UInt8 × Lin) × Value)) (v3 : Value) (w3 : World) : Prop where
  bel : Below lo W0 w3
  blk : w3.heap[O]? = some (.cells #[tv, dv, .slice ea2 i ec2, gv] 30 (0, 0))
  text : ItOwn lo w3 tv pt
  data : ItOwn lo w3 dv pd
  globs : w3.ownsRow lo 9 1 gv n4 gl
  row : w3.ownsRow lo 90 3 v3 (i + 1) (rowE (pe ++ [(x, .slice a1 tl e1)]))
  each : ∀ q ∈ pe ++ [(x, .slice a1 tl e1)], w3.ownsRow lo 107 2 q.2 q.1.2.terms.length (rowT q.1.2.terms)
theorem own_grow {w w' : World} {lo lo2 : Nat} {T T2 : TypeId} {sz sz2 : Nat} {v v2 : Value} {n n2 : Nat} {xs ys : List Value} (h : w.ownsRow lo T sz v n xs) (hG : w.ownsRow lo2 T2 sz2 v2 n2 ys) (hT : T ≠ T2) (hg : w.grownBy w' v2.ownBlock) : w'.ownsRow lo T sz v n xs := by
  refine ⟨h.1, ?_⟩
  rcases h.2 with h | ⟨g, cap, cu, h1, hb, hh, hr⟩
  · exact .inl h
  · refine .inr ⟨g, cap, cu, h1, hb, ?_, hr⟩
    rw [hg.block g (Array.getElem?_eq_some_iff.1 hh).1 (fun e => blk_other hG hh (Ne.symm hT) e.symm)]
    exact hh
theorem cu_step {lo : Nat} {W0 wr w1 w3 : World} {O : Nat} {tv dv gv : Value} {pt pd : List (Itm × Value)} {ut ud : List Itm} {n4 : Nat} {gl : List Value} {l : List (List UInt8 × Lin)} {i ec2 : Nat} {ev : Value} {ea2 : Option Addr} {pe : List ((List UInt8 × Lin) × Value)} {x : List UInt8 × Lin} {a1 : Option Addr} {tl e1 : Nat} {v3 : Value} {o : Obj} {B1 : Nat}
    (hS : CuL lo W0 O tv dv gv pt pd ut ud n4 gl l i ev pe wr) (hblk : wr.heap[O]? = some (.cells #[tv, dv, .slice ea2 i ec2, gv] 30 (0, 0))) (hown : wr.ownsRow lo 90 3 (.slice ea2 i ec2) i (rowE pe)) (hB : Below wr.heap.size wr w1) (hO1 : w1.ownsRow B1 107 2 (.slice a1 tl e1) tl (rowT x.2.terms)) (htl : tl = x.2.terms.length) (hB1 : lo ≤ B1)
    (ho : w3.ownsRow lo 90 3 v3 (i + 1) (rowE pe ++ (eqCells x (.slice a1 tl e1)).toList)) (hg : (w1.alloc o).grownBy w3 (Value.slice ea2 i ec2).ownBlock) : CuS lo W0 O tv dv gv pt pd n4 gl ea2 i ec2 x a1 tl e1 pe v3 w3 := by
  have hE : Below wr.heap.size wr (w1.alloc o) := chn hB (below_alloc w1 o)
  have hr := own_keptB hown hE
  have hbO : (w1.alloc o).heap[O]? = some (.cells #[tv, dv, .slice ea2 i ec2, gv] 30 (0, 0)) := (hE.block O (blk_lt hblk)).trans hblk
  have hW : Below lo W0 (w1.alloc o) := hS.bel.trans (hE.mono (by
    have := hS.low
    have := blk_lt hblk
    omega))
  refine ⟨hW.grown hg ?_ (fun j hj => (hr.lt _ hj).1), ?_, ?_, ?_, ?_, ?_, ?_⟩
  · have := hS.low
    have := blk_lt hbO
    omega
  · rw [hg.block O (blk_lt hbO) (fun e => blk_other hr hbO (by decide) e.symm)]
    exact hbO
  · exact ⟨own_grow (own_keptB hS.text.row hE) hr (by decide) hg, fun q hq => own_grow (own_keptB (hS.text.each q hq) hE) hr (by decide) hg⟩
  · exact ⟨own_grow (own_keptB hS.data.row hE) hr (by decide) hg, fun q hq => own_grow (own_keptB (hS.data.each q hq) hE) hr (by decide) hg⟩
  · exact own_grow (own_keptB hS.globs hE) hr (by decide) hg
  · have : rowE (pe ++ [(x, .slice a1 tl e1)]) = rowE pe ++ (eqCells x (.slice a1 tl e1)).toList := by simp [rowE]
    rw [this]; exact ho
  · intro q hq
    rcases List.mem_append.1 hq with hq | hq
    · exact own_grow (own_keptB (hS.equs.each q hq) hE) hr (by decide) hg
    · rw [List.mem_singleton] at hq
      subst hq
      show w3.ownsRow lo 107 2 (.slice a1 tl e1) x.2.terms.length (rowT x.2.terms)
      rw [← htl]
      exact own_grow (own_weaken (own_keptB hO1 (below_alloc w1 o)) hB1) hr (by decide) hg
theorem cu_next {lo : Nat} {W0 wr w3 : World} {O : Nat} {tv dv gv : Value} {pt pd : List (Itm × Value)} {ut ud : List Itm} {n4 : Nat} {gl : List Value} {l : List (List UInt8 × Lin)} {i ec2 : Nat} {ev : Value} {ea2 : Option Addr} {pe : List ((List UInt8 × Lin) × Value)} {x : List UInt8 × Lin} {a1 : Option Addr} {tl e1 : Nat} {v3 : Value}
    (hS : CuL lo W0 O tv dv gv pt pd ut ud n4 gl l i ev pe wr) (hx : l[i]? = some x) (h : CuS lo W0 O tv dv gv pt pd n4 gl ea2 i ec2 x a1 tl e1 pe v3 w3) (hp : pe.length = i) :
    CuL lo W0 O tv dv gv pt pd ut ud n4 gl l (i + 1) v3 (pe ++ [(x, .slice a1 tl e1)]) (w3.setCell ⟨O, 2, none⟩ v3) := by
  obtain ⟨r, hg⟩ := row_set h.blk 2 v3
  have hO := h.blk
  refine ⟨h.bel.setCell (p := ⟨O, 2, none⟩) hS.low _, r, hS.low, ⟨own_off h.text.row hO (by decide) hg, fun q hq => own_off (h.text.each q hq) hO (by decide) hg⟩, ⟨own_off h.data.row hO (by decide) hg, fun q hq => own_off (h.data.each q hq) hO (by decide) hg⟩, hS.et, hS.ed, own_off h.globs hO (by decide) hg, ⟨?_, fun q hq => own_off (h.each q hq) hO (by decide) hg⟩, ?_⟩
  · rw [List.length_append, List.length_singleton, hp]
    exact own_off h.row hO (by decide) hg
  · rw [List.map_append, hS.ee, List.map_singleton]
    have hi := (List.getElem?_eq_some_iff.1 hx)
    rw [List.take_succ_eq_append_getElem hi.1, hi.2]
theorem cu_last {lo : Nat} {w W0 wr : World} {O R : Nat} {tv dv gv : Value} {pt pd : List (Itm × Value)} {u : UVal} {i : Nat} {ev : Value} {pe : List ((List UInt8 × Lin) × Value)}
    (hB : Below w.heap.size w W0) (hlo : lo = W0.heap.size) (hR : W0.heap[R]? = some (.cells #[.slice none 0 0, .slice none 0 0, .slice none 0 0, .slice none 0 0] 30 (0, 0))) (hRw : w.heap.size ≤ R) (hS : CuL lo W0 O tv dv gv pt pd u.text u.data u.globs.length (u.globs.map encStr) u.equs i ev pe wr) (hi : u.equs.length ≤ i) :
    Below w.heap.size w ((((wr.setCell ⟨R, 0, none⟩ tv).setCell ⟨R, 1, none⟩ dv).setCell ⟨R, 2, none⟩ ev).setCell ⟨R, 3, none⟩ gv) ∧ UCopy w.heap.size ((((wr.setCell ⟨R, 0, none⟩ tv).setCell ⟨R, 1, none⟩ dv).setCell ⟨R, 2, none⟩ ev).setCell ⟨R, 3, none⟩ gv) u tv dv ev gv pt pd pe ∧ ((((wr.setCell ⟨R, 0, none⟩ tv).setCell ⟨R, 1, none⟩ dv).setCell ⟨R, 2, none⟩ ev).setCell ⟨R, 3, none⟩ gv).heap[R]? = some (.cells #[tv, dv, ev, gv] 30 (0, 0)) := by
  subst hlo
  have hRl : R < W0.heap.size := blk_lt hR
  have hRr : wr.heap[R]? = some (.cells #[.slice none 0 0, .slice none 0 0, .slice none 0 0, .slice none 0 0] 30 (0, 0)) := (hS.bel.block R hRl).trans hR
  obtain ⟨r0, g0⟩ := row_set hRr 0 tv
  obtain ⟨r1, g1⟩ := row_set r0 1 dv
  obtain ⟨r2, g2⟩ := row_set r1 2 ev
  obtain ⟨r3, g3⟩ := row_set r2 3 gv
  have hg := grown_trans (grown_trans (grown_trans g0 g1) g2) g3
  have hbw : Below w.heap.size w wr := chn hB hS.bel
  have hlow : w.heap.size ≤ W0.heap.size := hB.size
  refine ⟨((((hbw.setCell (p := ⟨R, 0, none⟩) hRw _).setCell (p := ⟨R, 1, none⟩) hRw _).setCell (p := ⟨R, 2, none⟩) hRw _).setCell (p := ⟨R, 3, none⟩) hRw _), ⟨⟨own_weaken (own_low hS.text.row hg hRl) hlow, fun q hq => own_weaken (own_low (hS.text.each q hq) hg hRl) hlow⟩, ⟨own_weaken (own_low hS.data.row hg hRl) hlow, fun q hq => own_weaken (own_low (hS.data.each q hq) hg hRl) hlow⟩, ⟨own_weaken (own_low hS.equs.row hg hRl) hlow, fun q hq => own_weaken (own_low (hS.equs.each q hq) hg hRl) hlow⟩, own_weaken (own_low hS.globs hg hRl) hlow, hS.et, hS.ed, ?_⟩, r3⟩
  rw [hS.ee, List.take_of_length_le hi]
set_option maxHeartbeats 16000000 in
theorem copyUnit_any (ta : Option Addr) (tc : Nat) (da : Option Addr) (dc : Nat) (ea : Option Addr) (ec : Nat) (ga : Option Addr) (gc : Nat) (u : UVal) (hu : HeldU u) (w : World) (hS : UnitSrc w ta da ea ga gc u) :
    Calls Tryz.prog 21 #[.agg (unitV ta tc da dc ea ec ga gc u)] w fun e w' => Below w.heap.size w w' ∧ ∃ tv dv ev gv pt pd pe, e = .returned (.agg (unit4 tv dv ev gv)) ∧ UCopy w.heap.size w' u tv dv ev gv pt pd pe := by
  obtain ⟨i0, hi9, hz0, hz1, hz2⟩ := info_parts info9
  have hB0 : Below w.heap.size w ((w.alloc (.cells (unitV ta tc da dc ea ec ga gc u) 30)).alloc (.cells #[.slice none 0 0, .slice none 0 0, .slice none 0 0, .slice none 0 0] 30)) := (below_alloc w _).alloc (by simp) _
  have hS0 := hS.below hB0
  have hx : ((w.alloc (.cells (unitV ta tc da dc ea ec ga gc u) 30)).alloc (.cells #[.slice none 0 0, .slice none 0 0, .slice none 0 0, .slice none 0 0] 30)).heap[w.heap.size]? = some (.cells (unitV ta tc da dc ea ec ga gc u) 30 (0, 0)) := (two_rows' w _ _ 30 30).1
  have hr2 : ((w.alloc (.cells (unitV ta tc da dc ea ec ga gc u) 30)).alloc (.cells #[.slice none 0 0, .slice none 0 0, .slice none 0 0, .slice none 0 0] 30)).heap[w.heap.size + 1]? = some (.cells #[.slice none 0 0, .slice none 0 0, .slice none 0 0, .slice none 0 0] 30 (0, 0)) := (two_rows' w _ _ 30 30).2
  have hs0 : ((w.alloc (.cells (unitV ta tc da dc ea ec ga gc u) 30)).alloc (.cells #[.slice none 0 0, .slice none 0 0, .slice none 0 0, .slice none 0 0] 30)).heap.size = w.heap.size + 2 := by simp
  generalize hW0 : ((w.alloc (.cells (unitV ta tc da dc ea ec ga gc u) 30)).alloc (.cells #[.slice none 0 0, .slice none 0 0, .slice none 0 0, .slice none 0 0] 30)) = W0 at *
  have q1 : Hid (∀ W, Below W0.heap.size W0 W → Calls Tryz.prog 50 #[.slice ta u.text.length tc] W fun e w' => Below W.heap.size W w' ∧ ∃ g p, e = .returned (.slice (some ⟨g, 0, none⟩) u.text.length u.text.length) ∧ ItOwn W.heap.size w' (.slice (some ⟨g, 0, none⟩) u.text.length u.text.length) p ∧ p.map (·.1) = u.text) := fun W hb => copyItems_any ta tc u.text hu.text.1 (fun x hx => (hu.text.2 x hx).few) W (hS0.below hb).text
  have q2 : Hid (∀ W, Below W0.heap.size W0 W → Calls Tryz.prog 50 #[.slice da u.data.length dc] W fun e w' => Below W.heap.size W w' ∧ ∃ g p, e = .returned (.slice (some ⟨g, 0, none⟩) u.data.length u.data.length) ∧ ItOwn W.heap.size w' (.slice (some ⟨g, 0, none⟩) u.data.length u.data.length) p ∧ p.map (·.1) = u.data) := fun W hb => copyItems_any da dc u.data hu.data.1 (fun x hx => (hu.data.2 x hx).few) W (hS0.below hb).data
  have hK : Hid (∀ W, Below W0.heap.size W0 W → W.cell? ⟨w.heap.size, 0, none⟩ = some (.slice ta u.text.length tc) ∧ W.cell? ⟨w.heap.size, 1, none⟩ = some (.slice da u.data.length dc) ∧ W.cell? ⟨w.heap.size, 2, none⟩ = some (.slice ea u.equs.length ec) ∧ W.cell? ⟨w.heap.size, 3, none⟩ = some (.slice ga u.globs.length gc)) := fun W hb => four_read ((hb.block _ (blk_lt hx)).trans hx)
  have hG := Hid.intro hS0.globs
  have hE0 := Hid.intro hS0.equs
  have hEh := Hid.intro hu.equs
  have hn3 : Hid (u.equs.length = u.equs.length) := rfl
  have hgl : u.globs.length ≤ 1100000 := hu.globs
  have hgn : Hid ((u.globs.map encStr).length = u.globs.length * 1) := by show _ = _; simp
  have hW0H := Hid.intro hs0
  have hB0H := Hid.intro hB0
  have hRH := Hid.intro hr2
  have hlt : w.heap.size < W0.heap.size := by omega
  obtain ⟨c0, c1, c2, c3⟩ := hK.out W0 (Below.refl _ _)
  unfold unitV at hW0 ⊢
  clear hS hS0 hB0 hx hu c2 hr2
  generalize u.text.length = n1 at *
  generalize u.data.length = n2 at *
  obtain ⟨n3, hn3'⟩ : ∃ n3, n3 = u.equs.length := ⟨_, rfl⟩
  clear hn3
  rw [← hn3'] at hW0 hK ⊢
  have hl3 : n3 ≤ 1100000 := by rw [hn3']; exact hEh.out.1
  have hn3 := Hid.intro hn3'
  clear hn3'
  generalize hul : u.equs = l at *
  generalize hg4 : u.globs.length = n4 at *
  have hone : Hid (∀ v ∈ u.globs.map encStr, v.oneCell' = true) := by show ∀ v ∈ _, _; simp [Value.oneCell', encStr]
  generalize hgE : u.globs.map encStr = gl at *
  generalize hut : u.text = ut at *
  generalize hud : u.data = ud at *
  have hU5 : Hid (u.text = ut ∧ u.data = ud ∧ u.equs = l ∧ u.globs.length = n4 ∧ u.globs.map encStr = gl) := ⟨hut, hud, hul, hg4, hgE⟩
  clear hut hud hul hg4 hgE
  go_enter Tryz.func21, Tryz.ntmps21
  go_wp2
  all_goals first | omega | skip
  clear hW0 hs0
  go_cut [3] (fun v3 wx => ∃ (O : Nat) (tv dv gv : Value) (pt pd : List (Itm × Value)), v3 = .pointer (some ⟨O, 0, none⟩) ∧ CuM W0.heap.size W0 O tv dv gv pt pd ut ud n4 gl wx)
  case first =>
    go_region_held3 (fun W => W.cell? ⟨w.heap.size, 0, none⟩ = some (.slice ta n1 tc) ∧ W.cell? ⟨w.heap.size, 1, none⟩ = some (.slice da n2 dc) ∧ W.cell? ⟨w.heap.size, 3, none⟩ = some (.slice ga n4 gc)) (go_keep)
      ((first
        | (go_at_call 50; (with_reducible refine (q1.out _ (by first | exact (Below.refl _ _).drew | exact ((below_alloc _ _).drew) | exact (((below_alloc _ _).alloc (by simp) _).drew) | exact below_alloc _ _ | exact (below_alloc _ _).alloc (by simp) _ | exact Below.refl _ _)).mono ?_); rintro e w1 ⟨hb1, g1, p1, rfl, hN1, hP1⟩; have hB1 : Hid (Below W0.heap.size W0 w1) := chn (by first | exact (Below.refl _ _).drew | exact ((below_alloc _ _).drew) | exact (((below_alloc _ _).alloc (by simp) _).drew) | exact below_alloc _ _ | exact (below_alloc _ _).alloc (by simp) _ | exact Below.refl _ _) hb1; obtain ⟨d0, d1, d2, d3⟩ := hK.out w1 hB1.out; clear d2; replace hN1 := Hid.intro hN1; replace hb1 := Hid.intro hb1)
        | (go_at_call 50; (with_reducible refine (q2.out _ (chn hB1.out (by first | exact Below.refl _ _ | exact below_alloc _ _ | exact (below_alloc _ _).alloc (by simp) _))).mono ?_); rintro e w2 ⟨hb2, g2, p2, rfl, hN2, hP2⟩; have hB2 : Hid (Below W0.heap.size W0 w2) := chn (chn hB1.out (by first | exact Below.refl _ _ | exact below_alloc _ _ | exact (below_alloc _ _).alloc (by simp) _)) hb2; obtain ⟨e0, e1, e2, e3⟩ := hK.out w2 hB2.out; clear e2; replace hN2 := Hid.intro hN2; replace hb2 := Hid.intro hb2)
        | (refine step_void _ rfl (.tmp 11) (.tmp 13) rfl W0.heap.size _ (by rfl) (by (repeat (first | (refine (hb2.out.block _ (by have h9 := hb1.out.size; have h8 := hb2.out.size; first | omega | (simp only [szA, szD] at h9 h8 ⊢; omega) | (simp only [szA, szD]; omega))).trans ?_) | (refine (hb1.out.block _ (by have h9 := hb1.out.size; have h8 := hb2.out.size; first | omega | (simp only [szA, szD] at h9 h8 ⊢; omega) | (simp only [szA, szD]; omega))).trans ?_) | (refine (Below.heap_alloc _ _ _ (by have h9 := hb1.out.size; have h8 := hb2.out.size; first | omega | (simp only [szA, szD] at h9 h8 ⊢; omega) | (simp only [szA, szD]; omega))).trans ?_))); exact heap_newK _ _ _ (by first | rfl | exact (szA _ _).symm)) (by have h7 := hB1.out.size; have h6 := hB2.out.size; first | omega | (simp only [szA, szD]; omega)) ga n4 gc gl (by rfl) (hG.out.below (chn hB2.out (by first | exact Below.refl _ _ | exact below_alloc _ _ | exact (below_alloc _ _).alloc (by simp) _))) hgn.out hone.out hgl ?_; intro a3 e3 w3 ho hb3 hf; have hB3 : Hid (Below W0.heap.size W0 w3) := (chn hB2.out (by first | exact Below.refl _ _ | exact below_alloc _ _ | exact (below_alloc _ _).alloc (by simp) _)).trans hb3; obtain ⟨m0, m1, m2, m3⟩ := hK.out w3 hB3.out; clear m2; (first | (have o9 := keepo (c := W0.heap.size) hf (by (repeat (first | (refine (hb2.out.block _ (by have h9 := hb1.out.size; have h8 := hb2.out.size; first | omega | (simp only [szA, szD] at h9 h8 ⊢; omega) | (simp only [szA, szD]; omega))).trans ?_) | (refine (hb1.out.block _ (by have h9 := hb1.out.size; have h8 := hb2.out.size; first | omega | (simp only [szA, szD] at h9 h8 ⊢; omega) | (simp only [szA, szD]; omega))).trans ?_) | (refine (Below.heap_alloc _ _ _ (by have h9 := hb1.out.size; have h8 := hb2.out.size; first | omega | (simp only [szA, szD] at h9 h8 ⊢; omega) | (simp only [szA, szD]; omega))).trans ?_))); exact heap_newK _ _ _ (by first | rfl | exact (szA _ _).symm)); obtain ⟨k0, k1, k2, k3⟩ := four_cells o9; have fz := fun j => frozen_of_row w3 W0.heap.size j _ 30 o9; have n9 : ¬ w.heap.size = W0.heap.size ∧ ¬ W0.heap.size = w.heap.size := (by have h7 := hB1.out.size; have h6 := hB2.out.size; omega); obtain ⟨n8, n9⟩ := n9; replace o9 := Hid.intro o9) | (have o9 := keepo (c := (W0.heap.size + 1)) hf (by (repeat (first | (refine (hb2.out.block _ (by have h9 := hb1.out.size; have h8 := hb2.out.size; first | omega | (simp only [szA, szD] at h9 h8 ⊢; omega) | (simp only [szA, szD]; omega))).trans ?_) | (refine (hb1.out.block _ (by have h9 := hb1.out.size; have h8 := hb2.out.size; first | omega | (simp only [szA, szD] at h9 h8 ⊢; omega) | (simp only [szA, szD]; omega))).trans ?_) | (refine (Below.heap_alloc _ _ _ (by have h9 := hb1.out.size; have h8 := hb2.out.size; first | omega | (simp only [szA, szD] at h9 h8 ⊢; omega) | (simp only [szA, szD]; omega))).trans ?_))); exact heap_newK _ _ _ (by first | rfl | exact (szA _ _).symm)); obtain ⟨k0, k1, k2, k3⟩ := four_cells o9; have fz := fun j => frozen_of_row w3 (W0.heap.size + 1) j _ 30 o9; have n9 : ¬ w.heap.size = (W0.heap.size + 1) ∧ ¬ (W0.heap.size + 1) = w.heap.size := (by have h7 := hB1.out.size; have h6 := hB2.out.size; omega); obtain ⟨n8, n9⟩ := n9; replace o9 := Hid.intro o9) | (have o9 := keepo (c := w1.heap.size) hf (by (repeat (first | (refine (hb2.out.block _ (by have h9 := hb1.out.size; have h8 := hb2.out.size; first | omega | (simp only [szA, szD] at h9 h8 ⊢; omega) | (simp only [szA, szD]; omega))).trans ?_) | (refine (hb1.out.block _ (by have h9 := hb1.out.size; have h8 := hb2.out.size; first | omega | (simp only [szA, szD] at h9 h8 ⊢; omega) | (simp only [szA, szD]; omega))).trans ?_) | (refine (Below.heap_alloc _ _ _ (by have h9 := hb1.out.size; have h8 := hb2.out.size; first | omega | (simp only [szA, szD] at h9 h8 ⊢; omega) | (simp only [szA, szD]; omega))).trans ?_))); exact heap_newK _ _ _ (by first | rfl | exact (szA _ _).symm)); obtain ⟨k0, k1, k2, k3⟩ := four_cells o9; have fz := fun j => frozen_of_row w3 w1.heap.size j _ 30 o9; have n9 : ¬ w.heap.size = w1.heap.size ∧ ¬ w1.heap.size = w.heap.size := (by have h7 := hB1.out.size; have h6 := hB2.out.size; omega); obtain ⟨n8, n9⟩ := n9; replace o9 := Hid.intro o9) | (have o9 := keepo (c := (w1.heap.size + 1)) hf (by (repeat (first | (refine (hb2.out.block _ (by have h9 := hb1.out.size; have h8 := hb2.out.size; first | omega | (simp only [szA, szD] at h9 h8 ⊢; omega) | (simp only [szA, szD]; omega))).trans ?_) | (refine (hb1.out.block _ (by have h9 := hb1.out.size; have h8 := hb2.out.size; first | omega | (simp only [szA, szD] at h9 h8 ⊢; omega) | (simp only [szA, szD]; omega))).trans ?_) | (refine (Below.heap_alloc _ _ _ (by have h9 := hb1.out.size; have h8 := hb2.out.size; first | omega | (simp only [szA, szD] at h9 h8 ⊢; omega) | (simp only [szA, szD]; omega))).trans ?_))); exact heap_newK _ _ _ (by first | rfl | exact (szA _ _).symm)); obtain ⟨k0, k1, k2, k3⟩ := four_cells o9; have fz := fun j => frozen_of_row w3 (w1.heap.size + 1) j _ 30 o9; have n9 : ¬ w.heap.size = (w1.heap.size + 1) ∧ ¬ (w1.heap.size + 1) = w.heap.size := (by have h7 := hB1.out.size; have h6 := hB2.out.size; omega); obtain ⟨n8, n9⟩ := n9; replace o9 := Hid.intro o9) | (have o9 := keepo (c := w2.heap.size) hf (by (repeat (first | (refine (hb2.out.block _ (by have h9 := hb1.out.size; have h8 := hb2.out.size; first | omega | (simp only [szA, szD] at h9 h8 ⊢; omega) | (simp only [szA, szD]; omega))).trans ?_) | (refine (hb1.out.block _ (by have h9 := hb1.out.size; have h8 := hb2.out.size; first | omega | (simp only [szA, szD] at h9 h8 ⊢; omega) | (simp only [szA, szD]; omega))).trans ?_) | (refine (Below.heap_alloc _ _ _ (by have h9 := hb1.out.size; have h8 := hb2.out.size; first | omega | (simp only [szA, szD] at h9 h8 ⊢; omega) | (simp only [szA, szD]; omega))).trans ?_))); exact heap_newK _ _ _ (by first | rfl | exact (szA _ _).symm)); obtain ⟨k0, k1, k2, k3⟩ := four_cells o9; have fz := fun j => frozen_of_row w3 w2.heap.size j _ 30 o9; have n9 : ¬ w.heap.size = w2.heap.size ∧ ¬ w2.heap.size = w.heap.size := (by have h7 := hB1.out.size; have h6 := hB2.out.size; omega); obtain ⟨n8, n9⟩ := n9; replace o9 := Hid.intro o9) | (have o9 := keepo (c := (w2.heap.size + 1)) hf (by (repeat (first | (refine (hb2.out.block _ (by have h9 := hb1.out.size; have h8 := hb2.out.size; first | omega | (simp only [szA, szD] at h9 h8 ⊢; omega) | (simp only [szA, szD]; omega))).trans ?_) | (refine (hb1.out.block _ (by have h9 := hb1.out.size; have h8 := hb2.out.size; first | omega | (simp only [szA, szD] at h9 h8 ⊢; omega) | (simp only [szA, szD]; omega))).trans ?_) | (refine (Below.heap_alloc _ _ _ (by have h9 := hb1.out.size; have h8 := hb2.out.size; first | omega | (simp only [szA, szD] at h9 h8 ⊢; omega) | (simp only [szA, szD]; omega))).trans ?_))); exact heap_newK _ _ _ (by first | rfl | exact (szA _ _).symm)); obtain ⟨k0, k1, k2, k3⟩ := four_cells o9; have fz := fun j => frozen_of_row w3 (w2.heap.size + 1) j _ 30 o9; have n9 : ¬ w.heap.size = (w2.heap.size + 1) ∧ ¬ (w2.heap.size + 1) = w.heap.size := (by have h7 := hB1.out.size; have h6 := hB2.out.size; omega); obtain ⟨n8, n9⟩ := n9; replace o9 := Hid.intro o9) | skip); have hT : Hid (ItOwn W0.heap.size w3 (.slice (some ⟨g1, 0, none⟩) n1 n1) p1) := ItOwn.far hf (((hN1.out.weaken (by first | exact Nat.le_refl _ | (simp only [szA, szD]; omega))).below (chn (by first | exact Below.refl _ _ | exact below_alloc _ _ | exact (below_alloc _ _).alloc (by simp) _) hb2.out)).below (by first | exact Below.refl _ _ | exact below_alloc _ _ | exact (below_alloc _ _).alloc (by simp) _)); have hD : Hid (ItOwn W0.heap.size w3 (.slice (some ⟨g2, 0, none⟩) n2 n2) p2) := ItOwn.far hf ((hN2.out.weaken (by have h7 := hB1.out.size; first | omega | (simp only [szA, szD]; omega))).below (by first | exact Below.refl _ _ | exact below_alloc _ _ | exact (below_alloc _ _).alloc (by simp) _)); replace ho := Hid.intro ho; clear hb3 hf hN1 hN2 hb1 hb2)))
    all_goals (go_wp2_with fail; go_meet)
    all_goals first
      | exact ⟨_, _, _, _, _, _, rfl, cu_end hB3.out (by have h7 := hB1.out.size; have h6 := hB2.out.size; have h5 := hB3.out.size; first | omega | (simp only [szA, szD]; omega)) o9.out hT.out hD.out ho.out hP1 hP2⟩
      | exact ⟨_, _, _, _, _, _, rfl, cu_end (hB3.out.alloc hB3.out.size _) hB3.out.size (heap_newK _ _ _ rfl) (hT.out.below (below_alloc _ _)) (hD.out.below (below_alloc _ _)) (own_keptB ho.out (below_alloc _ _)) hP1 hP2⟩
      | exact ⟨_, _, _, _, _, _, rfl, ⟨hB3.out.alloc hB3.out.size _, heap_newK _ _ _ rfl, hB3.out.size, hT.out.below (below_alloc _ _), hD.out.below (below_alloc _ _), hP1, hP2, own_keptB ho.out (below_alloc _ _)⟩⟩
  case rest =>
    obtain ⟨O, tv, dv, gv, pt, pd, hv3, hM⟩ := hcut
    subst hv3
    replace hM := Hid.intro hM
    go_wp2
    all_goals first | omega | skip
    go_loopw [4] (fun v4 wr => ∃ (i : Nat) (ev : Value) (pe : List ((List UInt8 × Lin) × Value)), i ≤ n3 ∧ v4 = .int .i64 (i : Int) ∧ Hid (CuL W0.heap.size W0 O tv dv gv pt pd ut ud n4 gl l i ev pe wr)) (fun v4 wr => n3 - (intOf v4).toNat)
    case atStart => exact ⟨0, _, [], by omega, rfl, Hid.intro ⟨hM.out.bel, hM.out.blk, hM.out.low, hM.out.text, hM.out.data, hM.out.et, hM.out.ed, hM.out.globs, EqOw.start _ _, rfl⟩⟩
    case round =>
      obtain ⟨i, ev, pe, hi, rfl, hS⟩ := hrel
      obtain ⟨c0, c1, c2, c3⟩ := hK.out wr hS.out.bel
      obtain ⟨k0, k1, k2, k3⟩ := four_cells hS.out.blk
      clear c0 c1 c3
      by_cases hlt2 : i < n3
      · have hlt3 : (i : Int) < (n3 : Int) := by omega
        have z0 : (0 : Int) ≤ (i : Int) := by omega
        obtain ⟨x, hx⟩ : ∃ x, l[i]? = some x := ⟨l[i]'(by rw [← hn3.out]; exact hlt2), List.getElem?_eq_getElem _⟩
        have hxm := List.mem_of_getElem? hx
        obtain ⟨g, o, ha, hgl2, hq⟩ : ∃ g o, ea = some ⟨g, o, none⟩ ∧ g < W0.heap.size ∧ ∃ va vc, W0.cell? ⟨g, o + i * 3, none⟩ = some (.string (str x.1)) ∧ W0.cell? ⟨g, o + i * 3 + 1, none⟩ = some (.slice va x.2.terms.length vc) ∧ W0.cell? ⟨g, o + i * 3 + 2, none⟩ = some (.int .u32 x.2.const) ∧ Src W0 (.slice va x.2.terms.length vc) x.2.terms.length (rowT x.2.terms) := by
          rcases hE0.out with h | ⟨g, o, h1, h2, h3⟩
          · rw [h] at hx; cases hx
          · exact ⟨g, o, h1, h2, h3 i x hx⟩
        obtain ⟨va, vc, s0, s1, s2, hsrc⟩ := hq
        subst ha
        obtain ⟨ea2, ec2, hev⟩ := own_slice hS.out.equs.row
        subst hev
        have hpl : pe.length = i := by have := congrArg List.length hS.out.ee; rw [List.length_map, List.length_take, ← hn3.out] at this; omega
        rw [hpl] at k2
        have hL := Hid.intro (fun W (hb : Below W0.heap.size W0 W) => copyLin_any va x.2.terms.length vc x.2 rfl (hEh.out.2 x hxm).few W (hsrc.below hb))
        have hcells : Hid (∀ W, Below W0.heap.size W0 W → W.cell? ⟨g, o + i * 3, none⟩ = some (.string (str x.1)) ∧ W.cell? ⟨g, o + i * 3 + 1, none⟩ = some (.slice va x.2.terms.length vc) ∧ W.cell? ⟨g, o + i * 3 + 2, none⟩ = some (.int .u32 x.2.const) ∧ W.cell? ⟨w.heap.size, 2, none⟩ = some (.slice (some ⟨g, o, none⟩) n3 ec)) := fun W hb => ⟨(hb.cell (p := ⟨g, _, none⟩) hgl2).trans s0, (hb.cell (p := ⟨g, _, none⟩) hgl2).trans s1, (hb.cell (p := ⟨g, _, none⟩) hgl2).trans s2, (hK.out W hb).2.2.1⟩
        obtain ⟨y0, y1, y2, y3⟩ := hcells.out wr hS.out.bel
        have hblk : Hid (wr.heap[O]? = some (.cells #[tv, dv, .slice ea2 i ec2, gv] 30 (0, 0))) := by show _ = _; rw [hS.out.blk, hpl]
        have hown0 : Hid (wr.ownsRow W0.heap.size 90 3 (.slice ea2 i ec2) i (rowE pe)) := by have := hS.out.equs.row; rw [hpl] at this; exact this
        clear s0 s1 s2
        obtain ⟨tl, htl⟩ : ∃ tl, tl = x.2.terms.length := ⟨_, rfl⟩
        rw [← htl] at hL hcells y1
        replace htl := Hid.intro htl
        clear hsrc k0 k1 k3 hM
        obtain ⟨i1, hi1, hy0, hy1, hy2⟩ := info_parts info90
        have nO1 : ¬ g = O ∧ ¬ O = g ∧ ¬ w.heap.size = O ∧ ¬ O = w.heap.size := by have := hS.out.low; omega
        obtain ⟨nO1, nO2, nO3, nO4⟩ := nO1
        go_wp2
        all_goals first | omega | skip
        refine wp_region_last (by kernel_rfl) 19 _ rfl rfl rfl (by kernel_rfl) (fun W => W.cell? ⟨g, o + i * 3, none⟩ = some (.string (str x.1)) ∧ W.cell? ⟨g, o + i * 3 + 1, none⟩ = some (.slice va tl vc) ∧ W.cell? ⟨g, o + i * 3 + 2, none⟩ = some (.int .u32 x.2.const) ∧ W.cell? ⟨w.heap.size, 2, none⟩ = some (.slice (some ⟨g, o, none⟩) n3 ec) ∧ W.cell? ⟨O, 2, none⟩ = some (.slice ea2 i ec2)) ⟨y0, y1, y2, y3, k2⟩ (fun hHeld => ?_)
        simp only [List.setIfInBounds_toArray, List.set_cons_succ, List.set_cons_zero, noOp]
        refine wpAnyH_take (i := 0) (v := ?v0) (by simp only [List.getElem?_toArray, List.getElem?_cons_succ, List.getElem?_cons_zero]; rfl) (by kernel_rfl) (by kernel_rfl) (by kernel_rfl) (by exact fun _ _ _ h => h) (Or.inl ⟨by rfl, ?y0⟩) (by assumption) ?r0
        case y0 => (intro w hSw; (try dsimp only at hSw); go_simp; (try with_reducible rfl))
        try simp only [Act.put, List.setIfInBounds_toArray, List.set_cons_zero, List.set_cons_succ]
        refine wpAnyH_take (i := 1) (v := ?v1) (by simp only [List.getElem?_toArray, List.getElem?_cons_succ, List.getElem?_cons_zero]; rfl) (by kernel_rfl) (by kernel_rfl) (by kernel_rfl) (by exact fun _ _ _ h => h) (Or.inl ⟨by rfl, ?y1⟩) (by assumption) ?r1
        case y1 => (intro w hSw; (try dsimp only at hSw); go_simp; (try with_reducible rfl))
        try simp only [Act.put, List.setIfInBounds_toArray, List.set_cons_zero, List.set_cons_succ]
        refine wpAnyH_take (i := 2) (v := ?v2) (by simp only [List.getElem?_toArray, List.getElem?_cons_succ, List.getElem?_cons_zero]; rfl) (by kernel_rfl) (by kernel_rfl) (by kernel_rfl) (by exact fun _ _ _ h => h) (Or.inl ⟨by rfl, ?y2⟩) (by assumption) ?r2
        case y2 => (intro w hSw; (try dsimp only at hSw); go_simp; (try with_reducible rfl))
        try simp only [Act.put, List.setIfInBounds_toArray, List.set_cons_zero, List.set_cons_succ]
        refine wpAnyH_take (i := 3) (v := ?v3) (by simp only [List.getElem?_toArray, List.getElem?_cons_succ, List.getElem?_cons_zero]; rfl) (by kernel_rfl) (by kernel_rfl) (by kernel_rfl) (by exact fun _ _ _ h => h) (Or.inl ⟨by rfl, ?y3⟩) (by assumption) ?r3
        case y3 => (intro w hSw; (try dsimp only at hSw); go_simp; (try with_reducible rfl))
        try simp only [Act.put, List.setIfInBounds_toArray, List.set_cons_zero, List.set_cons_succ]
        refine wpAnyH_take (i := 4) (v := ?v4) (by simp only [List.getElem?_toArray, List.getElem?_cons_succ, List.getElem?_cons_zero]; rfl) (by kernel_rfl) (by kernel_rfl) (by kernel_rfl) (by exact fun _ _ _ h => h) (Or.inl ⟨by rfl, ?y4⟩) (by assumption) ?r4
        case y4 => (intro w hSw; (try dsimp only at hSw); go_simp; (try with_reducible rfl))
        try simp only [Act.put, List.setIfInBounds_toArray, List.set_cons_zero, List.set_cons_succ]
        refine wpAnyH_take (i := 5) (v := ?v5) (by simp only [List.getElem?_toArray, List.getElem?_cons_succ, List.getElem?_cons_zero]; rfl) (by kernel_rfl) (by kernel_rfl) (by kernel_rfl) (by exact fun _ _ _ h => h) (Or.inl ⟨by rfl, ?y5⟩) (by assumption) ?r5
        case y5 => (intro w hSw; (try dsimp only at hSw); go_simp; (try with_reducible rfl))
        try simp only [Act.put, List.setIfInBounds_toArray, List.set_cons_zero, List.set_cons_succ]
        refine wpAnyH_take (i := 6) (v := ?v6) (by simp only [List.getElem?_toArray, List.getElem?_cons_succ, List.getElem?_cons_zero]; rfl) (by kernel_rfl) (by kernel_rfl) (by kernel_rfl) (by exact fun _ _ _ h => h) (Or.inl ⟨by rfl, ?y6⟩) (by assumption) ?r6
        case y6 => (intro w hSw; (try dsimp only at hSw); go_simp; (try with_reducible rfl))
        try simp only [Act.put, List.setIfInBounds_toArray, List.set_cons_zero, List.set_cons_succ]
        refine wpAnyH_take (i := 7) (v := ?v7) (by simp only [List.getElem?_toArray, List.getElem?_cons_succ, List.getElem?_cons_zero]; rfl) (by kernel_rfl) (by kernel_rfl) (by kernel_rfl) (by exact fun _ _ _ h => h) (Or.inl ⟨by rfl, ?y7⟩) (by assumption) ?r7
        case y7 => (intro w hSw; (try dsimp only at hSw); go_simp; (try with_reducible rfl))
        try simp only [Act.put, List.setIfInBounds_toArray, List.set_cons_zero, List.set_cons_succ]
        refine wpAnyH_take (i := 8) (v := ?v8) (by simp only [List.getElem?_toArray, List.getElem?_cons_succ, List.getElem?_cons_zero]; rfl) (by kernel_rfl) (by kernel_rfl) (by kernel_rfl) (by exact fun _ _ _ h => h) (Or.inl ⟨by rfl, ?y8⟩) (by assumption) ?r8
        case y8 => (intro w hSw; (try dsimp only at hSw); go_simp; (try with_reducible rfl))
        try simp only [Act.put, List.setIfInBounds_toArray, List.set_cons_zero, List.set_cons_succ]
        refine wpAnyH_take (i := 9) (v := ?v9) (by simp only [List.getElem?_toArray, List.getElem?_cons_succ, List.getElem?_cons_zero]; rfl) (by kernel_rfl) (by kernel_rfl) (by kernel_rfl) (by exact fun _ _ _ h => h) (Or.inl ⟨by rfl, ?y9⟩) (by assumption) ?r9
        case y9 => (intro w hSw; (try dsimp only at hSw); go_simp; (try with_reducible rfl))
        try simp only [Act.put, List.setIfInBounds_toArray, List.set_cons_zero, List.set_cons_succ]
        refine wpAnyH_take (i := 10) (v := ?v10) (by simp only [List.getElem?_toArray, List.getElem?_cons_succ, List.getElem?_cons_zero]; rfl) (by kernel_rfl) (by kernel_rfl) (by kernel_rfl) (by exact fun _ _ _ h => h) (Or.inl ⟨by rfl, ?y10⟩) (by assumption) ?r10
        case y10 => (intro w hSw; (try dsimp only at hSw); go_simp; (try with_reducible rfl))
        try simp only [Act.put, List.setIfInBounds_toArray, List.set_cons_zero, List.set_cons_succ]
        refine wpAnyH_take (i := 11) (v := ?v11) (by simp only [List.getElem?_toArray, List.getElem?_cons_succ, List.getElem?_cons_zero]; rfl) (by kernel_rfl) (by kernel_rfl) (by kernel_rfl) (by exact fun _ _ _ h => h) (Or.inl ⟨by rfl, ?y11⟩) (by assumption) ?r11
        case y11 => (intro w hSw; (try dsimp only at hSw); go_simp; (try with_reducible rfl))
        try simp only [Act.put, List.setIfInBounds_toArray, List.set_cons_zero, List.set_cons_succ]
        refine wpAnyH_take (i := 12) (v := ?v12) (by simp only [List.getElem?_toArray, List.getElem?_cons_succ, List.getElem?_cons_zero]; rfl) (by kernel_rfl) (by kernel_rfl) (by kernel_rfl) (by exact fun _ _ _ h => h) (Or.inl ⟨by rfl, ?y12⟩) (by assumption) ?r12
        case y12 => (intro w hSw; (try dsimp only at hSw); go_simp; (try with_reducible rfl))
        try simp only [Act.put, List.setIfInBounds_toArray, List.set_cons_zero, List.set_cons_succ]
        refine wpAnyH_take (i := 13) (v := ?v13) (by simp only [List.getElem?_toArray, List.getElem?_cons_succ, List.getElem?_cons_zero]; rfl) (by kernel_rfl) (by kernel_rfl) (by kernel_rfl) (by exact fun _ _ _ h => h) (Or.inl ⟨by rfl, ?y13⟩) (by assumption) ?r13
        case y13 => (intro w hSw; (try dsimp only at hSw); go_simp; (try with_reducible rfl))
        try simp only [Act.put, List.setIfInBounds_toArray, List.set_cons_zero, List.set_cons_succ]
        refine wpAnyH_ready (rs := [14]) (by kernel_rfl) (by simp) ?_
        refine AllReadyH.cons (o := ?or14) ?hor14 (fun K hK => ?stepr14) AllReadyH.nil
        case hor14 => (simp only [List.getElem?_toArray, List.getElem?_cons_succ, List.getElem?_cons_zero]; rfl)
        refine step_fn1 Tryz.prog _ ?g 51 (.tmp 36) #[84] ?h (.agg #[.slice va tl vc, .int .u32 x.2.const]) ?i Tryz.f51 Tryz.func51 f63_name f63_body ((hL.out _ hS.out.bel.drew).mono ?k)
        case g => rfl
        case h => rfl
        case i => rfl
        rintro e w1 ⟨a1, e1, rfl, hO1, hb1⟩
        refine ⟨_, rfl, ?_⟩
        have hB1 : Hid (Below wr.heap.size wr w1) := chn (Below.refl _ _).drew hb1
        have hA1 : Hid (Below W0.heap.size W0 w1) := chn hS.out.bel hB1.out
        obtain ⟨p0, p1, p2, p4⟩ := hcells.out w1 hA1.out
        have p3 : w1.cell? ⟨O, 2, none⟩ = some (.slice ea2 i ec2) := (four_cells ((hB1.out.block O (blk_lt hblk.out)).trans hblk.out)).2.2.1
        have p3a : ∀ ob : Obj, (w1.alloc ob).cell? ⟨O, 2, none⟩ = some (.slice ea2 i ec2) := (fun ob => (four_cells (((chn hB1.out (below_alloc w1 ob)).block O (blk_lt hblk.out)).trans hblk.out)).2.2.1)
        replace hO1 := Hid.intro hO1
        clear hb1
        refine hK.out _ _ ⟨p0, p1, p2, p4, p3⟩ (fun hHeld => ?_)
        clear hK K
        try simp only [Act.put, List.setIfInBounds_toArray, List.set_cons_zero, List.set_cons_succ]
        refine wpAnyH_take (i := 15) (v := ?v15) (by simp only [List.getElem?_toArray, List.getElem?_cons_succ, List.getElem?_cons_zero]; rfl) (by kernel_rfl) (by kernel_rfl) (by kernel_rfl) (by exact fun _ _ _ h => h) (Or.inl ⟨by rfl, ?y15⟩) (by assumption) ?r15
        case y15 => (intro w hSw; (try dsimp only at hSw); go_simp; (try with_reducible rfl))
        try simp only [Act.put, List.setIfInBounds_toArray, List.set_cons_zero, List.set_cons_succ]
        refine wpAnyH_ready (rs := [16]) (by kernel_rfl) (by simp) ?_
        refine AllReadyH.cons (o := ?or16) ?hor16 (fun K hK => ?stepr16) AllReadyH.nil
        case hor16 => (simp only [List.getElem?_toArray, List.getElem?_cons_succ, List.getElem?_cons_zero]; rfl)
        go_simp
        refine hK.out _ _ (by have hh := hcells.out _ (chn hA1.out (below_alloc w1 (.cells #[.string (str x.1), .slice a1 tl e1, .int .u32 x.2.const] 90))); exact ⟨hh.1, hh.2.1, hh.2.2.1, hh.2.2.2, p3a _⟩) (fun hHeld => ?_)
        clear hK K
        try simp only [Act.put, List.setIfInBounds_toArray, List.set_cons_zero, List.set_cons_succ]
        refine wpAnyH_ready (rs := [17]) (by kernel_rfl) (by simp) ?_
        refine AllReadyH.cons (o := ?or17) ?hor17 (fun K hK => ?stepr17) AllReadyH.nil
        case hor17 => (simp only [List.getElem?_toArray, List.getElem?_cons_succ, List.getElem?_cons_zero]; rfl)
        refine step_app _ rfl (.tmp 24) (.tmp 39) 27 rfl W0.heap.size 90 i1 _ 3 48 Tryz.underlying27 hi1 hy0 hy1 hy2 rfl (by decide) (.slice ea2 i ec2) i (rowE pe) rfl (own_keptB hown0.out (chn hB1.out (below_alloc w1 (.cells #[.string (str x.1), .slice a1 tl e1, .int .u32 x.2.const] 90)))) (.slice (some ⟨w1.heap.size, 0, none⟩) 1 1) 1 ((eqCells x (.slice a1 tl e1)).toList) rfl (.inr ⟨_, _, rfl, cells_new w1 _ _⟩) rfl (by simp [eqCells, Value.oneCell']) (by unfold maxLen; omega) (by omega) (by have h1 := hA1.out.size; rw [szA]; omega) ?_
        intro v3 w3 ho hg hw
        have hnx : Hid (CuS W0.heap.size W0 O tv dv gv pt pd n4 gl ea2 i ec2 x a1 tl e1 pe v3 w3) := cu_step hS.out hblk.out hown0.out hB1.out hO1.out htl.out (by have h1 := hS.out.bel.size; first | exact h1 | (rw [szD]; exact h1)) ho hg
        obtain ⟨ea3, ec3, hev3⟩ := own_slice hnx.out.row
        subst hev3
        obtain ⟨t0, t1, t2, t4⟩ := hcells.out w3 hnx.out.bel
        obtain ⟨_, _, t3, _⟩ := four_cells hnx.out.blk
        have tf := frozen_of_row w3 O 2 _ 30 hnx.out.blk
        clear ho hg hw
        refine hK.out _ _ ⟨t0, t1, t2, t4, t3⟩ (fun hHeld => ?_)
        clear hK K
        try simp only [Act.put, List.setIfInBounds_toArray, List.set_cons_zero, List.set_cons_succ]
        refine wpAnyH_take (i := 18) (v := ?v18) (by simp only [List.getElem?_toArray, List.getElem?_cons_succ, List.getElem?_cons_zero]; rfl) (by kernel_rfl) (by kernel_rfl) (by kernel_rfl) (by exact fun _ _ _ h => h) (Or.inl ⟨by rfl, ?y18⟩) (by assumption) ?r18
        case y18 => (intro w hSw; (try dsimp only at hSw); go_simp; (try with_reducible rfl))
        try simp only [Act.put, List.setIfInBounds_toArray, List.set_cons_zero, List.set_cons_succ]
        refine wpAnyH_take (i := 19) (v := ?v19) (by simp only [List.getElem?_toArray, List.getElem?_cons_succ, List.getElem?_cons_zero]; rfl) (by kernel_rfl) (by kernel_rfl) (by kernel_rfl) (by exact fun _ _ _ h => h) (Or.inl ⟨by rfl, ?y19⟩) (by assumption) ?r19
        case y19 => (intro w hSw; (try dsimp only at hSw); go_simp; (try with_reducible rfl))
        try simp only [Act.put, List.setIfInBounds_toArray, List.set_cons_zero, List.set_cons_succ]
        refine wpAnyH_done (by kernel_rfl) ?_ _
        show Oper.wp _ _ _ _ _ _
        go_simp
        all_goals (go_wp2_with fail; go_roundw)
        all_goals first
          | exact ⟨i + 1, _, _, by omega, by go_num, cu_next hS.out hx hnx.out hpl⟩
          | (simp [intOf]; omega)
      · have hend := Hid.intro (cu_last (u := u) (R := w.heap.size + 1) hB0H.out rfl hRH.out (by omega) (by obtain ⟨h1, h2, h3, h4, h5⟩ := hU5.out; rw [h1, h2, h3, h4, h5]; exact hS.out) (by rw [hU5.out.2.2.1, ← hn3.out]; omega))
        obtain ⟨q0, q1, q2, q3⟩ := four_cells ((hS.out.bel.block _ (blk_lt hRH.out)).trans hRH.out)
        have fq := fun j => frozen_of_row wr (w.heap.size + 1) j _ 30 ((hS.out.bel.block _ (blk_lt hRH.out)).trans hRH.out)
        obtain ⟨ez, ecz, hevz⟩ := own_slice hS.out.equs.row
        obtain ⟨tz, tcz, htvz⟩ := own_slice hS.out.text.row
        obtain ⟨dz, dcz, hdvz⟩ := own_slice hS.out.data.row
        obtain ⟨gz, gcz, hgvz⟩ := own_slice hS.out.globs
        subst hevz htvz hdvz hgvz
        have hne1 : ¬ (i : Int) < (n3 : Int) := by omega
        clear hM
        go_wp2
        all_goals first | omega | skip
        obtain ⟨z0, z1, z2, z3⟩ := four_cells hend.out.2.2
        refine bodyPost_ret (by simp [results, Tryz.results21, go_sem, z0, z1, z2, z3]; try rfl) rfl ?_
        refine ⟨hend.out.1, ?_⟩
        first | exact ⟨_, _, _, _, _, _, _, rfl, hend.out.2.1⟩ | exact ⟨_, _, _, _, rfl, _, _, _, hend.out.2.1⟩ | exact ⟨_, _, _, _, ⟨_, _, _, hend.out.2.1⟩, rfl⟩
end Go.Proofs.YtmndccbeddaphaaGreatDoor
