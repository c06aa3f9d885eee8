/- line.arguments: the walk. -/
import Derived.Test.YtogkchgjpflmjaaGreatDoorLArgs
namespace Go.Proofs.YtogkchgjpflmjaaGreatDoor
open Go.ChangeShapes Go.WideShapes Go.ChangeAt Go.RowKit
set_option linter.unusedVariables false
set_option maxRecDepth 100000
set_option maxHeartbeats 2000000 in
theorem arguments_any (a : Option Addr) (c : Nat) (ts : List Tok) (e : Nat) (w : World) (hm : ts.length ≤ 1100000) (he : e ≤ 1100000) (hT : TokFrom w a ts) :
    Calls Tryz.prog 103 #[.slice a ts.length c, .int .i64 (e : Int)] w fun x w' => AOut w.heap.size w (argsT e ts) x w' := by
  obtain ⟨n0, hn0⟩ : ∃ n0, n0 = ts.length := ⟨_, rfl⟩
  rw [← hn0] at hm ⊢
  by_cases h0 : n0 = 0
  · have hR : argsT e ts = .ok [] := by unfold argsT; rw [if_pos (by omega)]
    rw [hR]
    subst h0
    go_enter Tryz.func103, Tryz.ntmps103
    go_wp2
    go_ret3
    exact ⟨Below.refl _ _, _, _, w.heap.size, rfl, ArgsOwn.start _ _ _ _ _ (Nat.le_refl _)⟩
  · obtain ⟨R, hR⟩ : ∃ R, R = argsT e ts := ⟨_, rfl⟩
    rw [← hR]
    have hR' : R = argsF e ts [] [] := by rw [hR]; unfold argsT; rw [if_neg (by omega)]
    have hstart : Hid (LASt ts e w R 0 [] [] (.slice none 0 0) (.slice none 0 0) [] w.heap.size w) := ⟨by omega, by simp, by simp, by rw [List.drop_zero]; exact hR', World.ownsRow_nil _ _ _ _, ArgsOwn.start _ _ _ _ _ (Nat.le_refl _), Nat.le_refl _, Below.refl _ _⟩
    rcases hT with hT | ⟨g, o, rfl, hg, hT⟩
    · rw [hT] at hn0; simp at hn0; omega
    · have hTH := Hid.intro hT
      have hnH := Hid.intro hn0
      clear hT hR hR' hn0
      obtain ⟨i0, hi, hz0, hz1, hz2⟩ := info_parts Tryz.info188
      obtain ⟨j0, hj, hy0, hy1, hy2⟩ := info_parts Tryz.info182
      have hn1 : ((n0 : Int) == 0) = false := by simp; omega
      go_enter Tryz.func103, Tryz.ntmps103
      go_wp2
      all_goals first | omega | skip
      go_loopw [7, 8, 17] (fun v7 v8 vi wr => ∃ (i : Nat) (arg : List Tok) (acc : List (List Tok)) (vs : List Value) (m : Nat), vi = .int .i64 (i : Int) ∧ Hid (LASt ts e w R i arg acc v7 v8 vs m wr)) (fun _ _ vi _ => n0 - (intOf vi).toNat)
      case atStart => exact ⟨0, [], [], [], w.heap.size, rfl, hstart⟩
      case round =>
        clear hstart
        obtain ⟨i, arg, acc, vs, m, rfl, hS⟩ := hrel
        obtain ⟨a1, c1, rfl⟩ := lown_slice hS.out.args.row
        obtain ⟨a2, c2, rfl⟩ := lown_slice hS.out.own
        have hle := hS.out.le
        have hfew := hS.out.few
        have hfewA := hS.out.fewA
        have hvl : vs.length ≤ i := by have := hS.out.args.len; omega
        rw [← hnH.out] at hle
        obtain ⟨k7, hk7⟩ : ∃ k7, k7 = vs.length := ⟨_, rfl⟩
        obtain ⟨k8, hk8⟩ : ∃ k8, k8 = arg.length := ⟨_, rfl⟩
        rw [← hk7, ← hk8] at hS
        rw [← hk7] at hvl ⊢
        rw [← hk8] at hfew ⊢
        have hk7H := Hid.intro hk7
        have hk8H := Hid.intro hk8
        clear hk7 hk8
        have hownH : Hid (wr.ownsRow m 188 4 (.slice a2 k8 c2) k8 (rowOf arg)) := by
          have := hS.out.own
          rwa [← hk8H.out] at this
        have hrowH : Hid (wr.ownsRow w.heap.size 182 1 (.slice a1 k7 c1) k7 vs) := by
          have := hS.out.args.row
          rwa [← hk7H.out] at this
        have hmle := hS.out.args.le
        have hmlo := hS.out.lo
        by_cases hlt : i < n0
        · obtain ⟨t, ht⟩ : ∃ t, ts[i]? = some t := ⟨ts[i]'(by rw [← hnH.out]; exact hlt), List.getElem?_eq_getElem _⟩
          have htH := Hid.intro ht
          clear ht
          have hgr : g < wr.heap.size := Nat.lt_of_lt_of_le hg hS.out.bel.size
          obtain ⟨q0, q1, q2, q3⟩ := (hTH.out i t htH.out).below hS.out.bel hg
          cases h1 : isS t 58
          · cases h2 : isS t 44
            · have hc58 := Hid.intro (lineSign_b t 58 false h1)
              have hc44 := Hid.intro (lineSign_b t 44 false h2)
              have hn := Hid.intro (fun (w2 w3 : World) (v2 : Value) (o : Obj) => ast_more hS.out t htH.out h1 h2 w2 w3 v2 o)
              clear h1 h2
              go_wp2_with (first
                | (go_at_call 130; with_reducible refine (hc44.out _).mono ?_; rintro e w1 ⟨rfl, hb1⟩; obtain ⟨b0, b1, b2, b3⟩ := box_below hb1; simp only [Nat.zero_add] at b1 b2 b3)
                | (go_at_call 130; with_reducible refine (hc58.out _).mono ?_; rintro e w2 ⟨rfl, hb2⟩; obtain ⟨d0, d1, d2, d3⟩ := (box_below hb1).below hb2 (lalloc_lt hb1); simp only [Nat.zero_add] at d1 d2 d3)
                | (at_builtin; go_must (refine wpList_append_own_wide _ rfl (.tmp 23) (.tmp 25) 182 rfl m 188 i0 (.agg #[.int .i64 0, .string ⟨#[]⟩, .int .u32 0, .int .i64 0]) 4 40 Tryz.underlying182 hi hz0 hz1 hz2 rfl (by decide) (.slice a2 k8 c2) k8 (rowOf arg) rfl ((ownsRow_below hownH.out (ltwo_below hb1 hb2)).alloc _) ⟨w2.heap.size, 0, none⟩ 1 1 [.int .i64 t.kind, .string (str t.text), .int .u32 t.num, .int .i64 (t.place : Int)] rfl rfl (cells_new _ _ _) (by simp [Value.oneCell']) (by unfold maxLen; omega) (by omega) (by have := (ltwo_below hb1 hb2).size; simp; omega) ?_; intro v2 w3 hown3 hgrow3 _)))
              all_goals first | omega | skip
              go_roundw
              case rel => exact ⟨i + 1, arg ++ [t], acc, vs, m, by go_num, hn.out w2 w3 v2 _ (ltwo_below hb1 hb2) hgrow3 (by rw [← hk8H.out]; exact hown3)⟩
              case measure => simp [intOf]; omega
            · have hc58 := Hid.intro (lineSign_b t 58 false h1)
              have hc44 := Hid.intro (lineSign_b t 44 true h2)
              by_cases h0 : k8 = 0
              · have hR : Hid (R = .error t.place) := by
                  show R = _
                  rw [hS.out.eq, ldrop_at ts i t htH.out, argsF_empty _ _ _ _ _ h1 h2 (by rw [← hk8H.out]; exact h0)]
                have hz : ((k8 : Int) == 0) = true := by simp [h0]
                clear h1 h2 h0
                go_wp2_with (first
                  | (go_at_call 130; with_reducible refine (hc44.out _).mono ?_; rintro e w1 ⟨rfl, hb1⟩; obtain ⟨b0, b1, b2, b3⟩ := box_below hb1; simp only [Nat.zero_add] at b1 b2 b3)
                  | (go_at_call 130; with_reducible refine (hc58.out _).mono ?_; rintro e w2 ⟨rfl, hb2⟩; obtain ⟨d0, d1, d2, d3⟩ := (box_below hb1).below hb2 (lalloc_lt hb1); simp only [Nat.zero_add] at d1 d2 d3))
                all_goals first | omega | skip
                go_quiet (fail)
                go_wp2
                all_goals first | omega | skip
                go_ret3
                rw [hR.out]
                exact ⟨below_drewN (hS.out.bel.trans ((ltwo_below hb1 hb2).mono hS.out.bel.size)) nq, rfl⟩
              · have hn := Hid.intro (fun (w2 w3 : World) (v2 : Value) (o : Obj) => ast_comma hS.out t htH.out h1 h2 (by rw [← hk8H.out]; exact h0) w2 w3 v2 o)
                have hz : ((k8 : Int) == 0) = false := by simp [h0]
                clear h1 h2 h0
                go_wp2_with (first
                  | (go_at_call 130; with_reducible refine (hc44.out _).mono ?_; rintro e w1 ⟨rfl, hb1⟩; obtain ⟨b0, b1, b2, b3⟩ := box_below hb1; simp only [Nat.zero_add] at b1 b2 b3)
                  | (go_at_call 130; with_reducible refine (hc58.out _).mono ?_; rintro e w2 ⟨rfl, hb2⟩; obtain ⟨d0, d1, d2, d3⟩ := (box_below hb1).below hb2 (lalloc_lt hb1); simp only [Nat.zero_add] at d1 d2 d3)
                  | (at_builtin; go_must (refine wpList_append_own _ rfl (.tmp 40) (.tmp 42) 131 rfl w.heap.size 182 j0 (.slice none 0 0) 1 24 Tryz.underlying131 hj hy0 hy1 hy2 rfl (by decide) (.slice a1 k7 c1) k7 vs rfl ((ownsRow_below hrowH.out (ltwo_below hb1 hb2)).alloc _) ⟨w2.heap.size, 0, none⟩ 1 1 [.slice a2 k8 c2] rfl rfl (cells_new _ _ _) (by simp [Value.oneCell']) (by unfold maxLen; omega) (by omega) (by have := (ltwo_below hb1 hb2).size; simp; omega) ?_; intro v2 w3 hown3 hgrow3 _)))
                all_goals first | omega | skip
                go_roundw
                case rel => exact ⟨i + 1, [], acc ++ [arg], vs ++ [.slice a2 k8 c2], w3.heap.size, by go_num, Hid.intro (hn.out w2 w3 v2 _ (ltwo_below hb1 hb2) hgrow3 (by rw [← hk7H.out]; exact hown3))⟩
                case measure => simp [intOf]; omega
          · have hc58 := Hid.intro (lineSign_b t 58 true h1)
            have hc44 := Hid.intro (fun w => lineSign_b t 44 _ rfl w)
            have hR : Hid (R = .error t.place) := by
              show R = _
              rw [hS.out.eq, ldrop_at ts i t htH.out, argsF_sign _ _ _ _ _ h1]
            clear h1
            obtain ⟨bc, hbc⟩ : ∃ bc, bc = isS t 44 := ⟨_, rfl⟩
            rw [← hbc] at hc44
            clear hbc
            go_wp2_with (first
              | (go_at_call 130; with_reducible refine (hc44.out _).mono ?_; rintro e w1 ⟨rfl, hb1⟩; obtain ⟨b0, b1, b2, b3⟩ := box_below hb1; simp only [Nat.zero_add] at b1 b2 b3)
              | (go_at_call 130; with_reducible refine (hc58.out _).mono ?_; rintro e w2 ⟨rfl, hb2⟩; obtain ⟨d0, d1, d2, d3⟩ := (box_below hb1).below hb2 (lalloc_lt hb1); simp only [Nat.zero_add] at d1 d2 d3))
            all_goals first | omega | skip
            go_quiet (fail)
            go_wp2
            all_goals first | omega | skip
            go_ret3
            rw [hR.out]
            exact ⟨below_drewN (hS.out.bel.trans ((ltwo_below hb1 hb2).mono hS.out.bel.size)) nq, rfl⟩
        · have hin : Hid (i = ts.length) := by
            show i = _
            rw [← hnH.out]
            omega
          by_cases h0 : k8 = 0
          · have hR : Hid (R = .error e) := by
              show R = _
              rw [hS.out.eq, hin.out, List.drop_length, argsF, if_pos (by rw [← hk8H.out]; exact h0)]
            have hz : ((k8 : Int) == 0) = true := by simp [h0]
            clear h0
            go_wp2
            all_goals first | omega | skip
            go_ret3
            rw [hR.out]
            exact ⟨hS.out.bel, rfl⟩
          · have hS' : Hid (LASt ts e w R ts.length arg acc (.slice a1 k7 c1) (.slice a2 k8 c2) vs m wr) := by
              have := hS.out
              rwa [hin.out] at this
            have hn := Hid.intro (fun (w3 : World) (v2 : Value) (o : Obj) => ast_end hS'.out (by rw [← hk8H.out]; exact h0) w3 v2 o)
            have hz : ((k8 : Int) == 0) = false := by simp [h0]
            clear h0
            go_wp2_with (at_builtin; go_must (refine wpList_append_own _ rfl (.tmp 49) (.tmp 51) 131 rfl w.heap.size 182 j0 (.slice none 0 0) 1 24 Tryz.underlying131 hj hy0 hy1 hy2 rfl (by decide) (.slice a1 k7 c1) k7 vs rfl (hrowH.out.alloc _) ⟨wr.heap.size, 0, none⟩ 1 1 [.slice a2 k8 c2] rfl rfl (cells_new _ _ _) (by simp [Value.oneCell']) (by unfold maxLen; omega) (by omega) (by simp; omega) ?_; intro v2 w3 hown3 hgrow3 _))
            all_goals first | omega | skip
            go_ret3
            exact hn.out w3 v2 _ hgrow3 (by rw [← hk7H.out]; exact hown3)
end Go.Proofs.YtogkchgjpflmjaaGreatDoor
