/- The document's Parse: its arguments, a line without a label. -/
import Derived.Test.YtdmhdhmclcogoaaRefPW
namespace Go.Proofs.Ytdmhdhmclcogoaa
open Go.ChangeShapes Go.WideShapes Go.ChangeAt Go.RowKit
set_option linter.unusedVariables false
set_option maxRecDepth 100000

set_option maxHeartbeats 4000000 in
theorem refParse_loop (s : ByteArray) (hs : s.size ≤ 1100000) (t u : Tok) (r : List Tok) (h : scan (bs s) 0 = .ok (t :: u :: r)) (hk : t.kind = 1) (hu : isS u 58 = false) (w : World) :
    Calls Try.prog 13 #[.string s] w fun e w' => RPOut w.heap.size w (lnR [] t.text (argsF s.size (u :: r) [] [])) e w' := by
  have hT := Hid.intro (fun w => refTokens_ok s hs (t :: u :: r) h w)
  have hlen := scan_len _ _ _ h
  rw [bs_length] at hlen
  have hll : (t :: u :: r).length = r.length + 1 + 1 := rfl
  rw [hll] at hT hlen
  clear h hll
  have hk' : (t.kind == 1) = true := by simp [hk]
  have hk2 : (t.kind != 1) = false := by simp [hk]
  clear hk
  have hS := Hid.intro (refSign_b u 58 false hu)
  clear hu
  have hz : ((0 : Int) == (r.length : Int) + 1 + 1) = false := by simp; omega
  have hz1 : ((1 : Int) == (r.length : Int) + 1 + 1) = false := by simp; omega
  have hd : decide (2 ≤ (r.length : Int) + 1 + 1) = true := by simp; omega
  obtain ⟨R, hR⟩ : ∃ R, R = lnR [] t.text (argsF s.size (u :: r) [] []) := ⟨_, rfl⟩
  rw [← hR]
  replace hR := Hid.intro hR
  go_enter Try.func13, Try.ntmps13
  go_wp2_with (first
    | (go_at_call 26; with_reducible refine (hT.out _).mono ?_; rintro e w1 ⟨hb1, a1, c1, rfl, hl1, hlo1⟩; obtain ⟨g, rfl, hg, hl1⟩ := toks_of hl1; have hgl : w.heap.size < g := (by have := hlo1 _ rfl; simp at this; omega); have hl1 := Hid.intro hl1; clear hlo1; obtain ⟨y0, y1, y2, y3⟩ := hl1.out 0 t rfl; simp only [Nat.zero_mul, Nat.zero_add] at y0 y1 y2 y3; obtain ⟨x0, x1, x2, x3⟩ := hl1.out 1 u rfl; simp only [Nat.one_mul, Nat.reduceAdd] at x0 x1 x2 x3; replace y0 := cellA y0; replace y1 := cellA y1; replace x0 := cellA x0; replace x1 := cellA x1; replace x2 := cellA x2; replace x3 := cellA x3)
    | (go_at_call 27; with_reducible refine (hS.out _).mono ?_; rintro e w2 ⟨rfl, hb2⟩; have hgs := alloc_lt hb2; obtain ⟨oh, o0, o1, o2, p0, p1, p2⟩ := lineCells_below hb2; replace oh := Hid.intro oh; have rres := Hid.intro ((lineCells_below hb1).below (one_below hb2) (alloc_lt hb1)); obtain ⟨v0, v1, v2, v3⟩ := (hl1.out 0 t rfl).below (one_below hb2) hg; simp only [Nat.zero_mul, Nat.zero_add] at v0 v1 v2 v3; have hne : ¬ g = w1.heap.size := (by omega); have hne2 : ¬ w1.heap.size = g := (by omega)))
  all_goals first | omega | skip
  have hstart := Hid.intro (pst_start (ts := (t :: u :: r)) (e := s.size) (R := R) (lab := []) (op := t.text) hb1 hb2 (by rw [heap_setCell_same w2 w1.heap.size 1 _ 33 _ oh.out]; rfl) (set_grown w2 w1.heap.size 1 _) 1 (by simp) hgl hg (fun k t ht => hl1.out k t ht) hR.out)
  generalize (w2.setCell ⟨w1.heap.size, 1, none⟩ (.string (str t.text))) = wS at hstart ⊢
  generalize w1.heap.size + 1 = lo at hstart
  clear hl1 hb1 hb2 hT hS hR o0 o1 o2 p0 p1 p2 oh rres v0 v1 v2 v3 hne hne2 y0 y1 y2 y3 x0 x1 x2 x3 hgs
  generalize w1.heap.size = bo at hstart hg ⊢
  obtain ⟨n0, hn0⟩ : ∃ n0, n0 = ((t :: u :: r)).length := ⟨_, rfl⟩
  have hll : r.length + 1 + 1 = n0 := hn0.symm
  rw [hll] at hlen ⊢
  replace hll := Hid.intro hll
  have hnH := Hid.intro hn0
  clear hn0
  generalize hTS : (t :: u :: r) = ts at hstart hnH
  clear hTS
  have hn0i : (n0 : Int) ≤ 1100000 := by omega
  obtain ⟨i0, hi, hz0, hz1, hz2⟩ := info_parts Try.info69
  obtain ⟨j0, hj, hy0, hy1, hy2⟩ := info_parts Try.info62
  go_loopw [9, 10] (fun vi v8 wr => ∃ (i : Nat) (arg : List Tok) (acc : List (List Tok)) (va : Value) (vs : List Value) (m : Nat), vi = .int .i64 (i : Int) ∧ Hid (PSt ts s.size w R [] t.text g w.heap.size bo lo i arg acc va v8 vs m wr)) (fun vi _ _ => n0 - (intOf vi).toNat)
  case atStart => exact ⟨1, [], [], .slice none 0 0, [], _, rfl, hstart⟩
  case round =>
    clear hstart
    obtain ⟨i, arg, acc, va, vs, m, rfl, hS⟩ := hrel
    obtain ⟨a1, c1, rfl⟩ := own_slice hS.out.args.row
    obtain ⟨a2, c2, rfl⟩ := own_slice hS.out.own
    have hle := hS.out.le
    have hfew := hS.out.few
    have hfewA := hS.out.fewA
    have hvl : vs.length ≤ i := by have := hS.out.args.len; omega
    rw [← hnH.out] at hle
    obtain ⟨k7, hk7⟩ : ∃ k7, k7 = vs.length := ⟨_, rfl⟩
    obtain ⟨k8, hk8⟩ : ∃ k8, k8 = arg.length := ⟨_, rfl⟩
    rw [← hk7, ← hk8] at hS
    rw [← hk7] at hvl
    rw [← hk8] at hfew ⊢
    have hk7H := Hid.intro hk7
    have hk8H := Hid.intro hk8
    clear hk7 hk8
    have hownH : Hid (wr.ownsRow m 69 4 (.slice a2 k8 c2) k8 (rowOf arg)) := by
      have := hS.out.own
      rwa [← hk8H.out] at this
    have hrowH : Hid (wr.ownsRow lo 62 1 (.slice a1 k7 c1) k7 vs) := by
      have := hS.out.args.row
      rwa [← hk7H.out] at this
    have hmle := hS.out.args.le
    have hmlo := hS.out.lom
    have hrt := hS.out.res
    have hrlt : w.heap.size < wr.heap.size := (Array.getElem?_eq_some_iff.1 hrt.heap).1
    replace hrt := Hid.intro hrt
    have hbolt : bo < lo := hS.out.bor.2.1
    have hvaH : Hid (∀ k, (Value.slice a1 k7 c1).ownBlock = some k → lo ≤ k) := fun k hk => (hS.out.args.row.lt k hk).1
    by_cases hlt : i < n0
    · obtain ⟨t, ht⟩ : ∃ t, ts[i]? = some t := ⟨ts[i]'(by rw [← hnH.out]; exact hlt), List.getElem?_eq_getElem _⟩
      have htH := Hid.intro ht
      clear ht
      obtain ⟨q0, q1, q2, q3⟩ := hS.out.tok i t htH.out
      have hcur := Hid.intro (hS.out.cur t)
      cases h1 : isS t 58
      · cases h2 : isS t 44
        · have hc58 := Hid.intro (refSign_b t 58 false h1)
          have hc44 := Hid.intro (refSign_b t 44 false h2)
          have hn := Hid.intro (fun (w2 w3 : World) (v2 : Value) (o : Obj) => pst_more hS.out t htH.out h1 h2 w2 w3 v2 o)
          clear h1 h2
          go_wp2_with (first
            | (go_at_call 27; with_reducible refine (hc58.out _).mono ?_; rintro e w2 ⟨rfl, hb2⟩; replace hcur := Hid.intro (hcur.out.step hb2); obtain ⟨d0, d1, d2, d3⟩ := hcur.out.box; simp only [Nat.zero_add] at d1 d2 d3)
            | (go_at_call 27; with_reducible refine (hc44.out _).mono ?_; rintro e w2 ⟨rfl, hb2⟩; replace hcur := Hid.intro (hcur.out.step hb2); obtain ⟨d0, d1, d2, d3⟩ := hcur.out.box; simp only [Nat.zero_add] at d1 d2 d3)
            | (at_builtin; go_must (refine wpList_append_own_wide _ rfl (.tmp 106) (.tmp 108) 62 rfl m 69 i0 (.agg #[.int .i64 0, .string ⟨#[]⟩, .int .u32 0, .int .i64 0]) 4 40 Try.underlying62 hi hz0 hz1 hz2 rfl (by decide) (.slice a2 k8 c2) k8 (rowOf arg) rfl ((ownsRow_below hownH.out hcur.out.bel).alloc _) ⟨w2.heap.size, 0, none⟩ 1 1 [.int .i64 t.kind, .string (str t.text), .int .u32 t.num, .int .i64 (t.place : Int)] rfl rfl (cells_new _ _ _) (by simp [Value.oneCell']) (by unfold maxLen; omega) (by omega) (by have := hcur.out.bel.size; simp; omega) ?_; intro v2 w3 hown3 hgrow3 _)))
          all_goals first | omega | skip
          go_roundw
          case rel => exact ⟨i + 1, arg ++ [t], acc, _, vs, m, by go_num, Hid.intro (hn.out w2 w3 v2 _ hcur.out hgrow3 (by rw [← hk8H.out]; exact hown3))⟩
          case measure => simp [intOf]; omega
        · have hc58 := Hid.intro (refSign_b t 58 false h1)
          have hc44 := Hid.intro (refSign_b t 44 true h2)
          by_cases h0 : k8 = 0
          · have hRe : Hid (R = .error t.place) := by
              show R = _
              rw [hS.out.eq, drop_at ts i t htH.out, argsF_empty _ _ _ _ _ h1 h2 (by rw [← hk8H.out]; exact h0)]
              rfl
            have hz : ((k8 : Int) == 0) = true := by simp [h0]
            clear h1 h2 h0
            go_wp2_with (first
              | (go_at_call 27; with_reducible refine (hc58.out _).mono ?_; rintro e w2 ⟨rfl, hb2⟩; replace hcur := Hid.intro (hcur.out.step hb2); obtain ⟨d0, d1, d2, d3⟩ := hcur.out.box; simp only [Nat.zero_add] at d1 d2 d3; replace hrt := Hid.intro (res_below hS.out.res hcur.out.bel))
              | (go_at_call 27; with_reducible refine (hc44.out _).mono ?_; rintro e w2 ⟨rfl, hb2⟩; replace hcur := Hid.intro (hcur.out.step hb2); obtain ⟨d0, d1, d2, d3⟩ := hcur.out.box; simp only [Nat.zero_add] at d1 d2 d3; replace hrt := Hid.intro (res_below hS.out.res hcur.out.bel)))
            all_goals first | omega | skip
            obtain ⟨rh, r0, r1, r2, f0, f1, f2⟩ := hrt.out
            replace rh := Hid.intro rh
            have hne3 : ¬ w.heap.size = wr.heap.size := by omega
            have hne4 : ¬ wr.heap.size = w.heap.size := by omega
            go_region
            go_wp2
            obtain ⟨s1, s2, s3⟩ := line_set rh.out rfl (.string ⟨#[]⟩) (.string ⟨#[]⟩) (.slice none 0 0)
            generalize (((w2.setCell ⟨w.heap.size, 0, none⟩ (.string ⟨#[]⟩)).setCell ⟨w.heap.size, 1, none⟩ (.string ⟨#[]⟩)).setCell ⟨w.heap.size, 2, none⟩ (.slice none 0 0)) = w4 at s1 s2 s3 ⊢
            have s1' : w4.drew.heap[w.heap.size]? = some (.cells #[.string ⟨#[]⟩, .string ⟨#[]⟩, .slice none 0 0] 33 (0, 0)) := s1
            obtain ⟨z0, z1, z2⟩ := line_read s1'
            refine bodyPost_ret (by simp [results, Try.results13, go_sem, z0, z1, z2]; try rfl) rfl ?_
            rw [hRe.out]
            exact ⟨((hS.out.bel.trans (hcur.out.bel.mono (by omega))).trans s2).drew, rfl⟩
          · have hn := Hid.intro (fun (w2 w3 : World) (v2 : Value) (o : Obj) => pst_comma hS.out t htH.out h1 h2 (by rw [← hk8H.out]; exact h0) w2 w3 v2 o)
            have hz : ((k8 : Int) == 0) = false := by simp [h0]
            clear h1 h2 h0
            go_wp2_with (first
              | (go_at_call 27; with_reducible refine (hc58.out _).mono ?_; rintro e w2 ⟨rfl, hb2⟩; replace hcur := Hid.intro (hcur.out.step hb2); obtain ⟨d0, d1, d2, d3⟩ := hcur.out.box; simp only [Nat.zero_add] at d1 d2 d3; have oc := hcur.out.cell; replace oc := cellA oc)
              | (go_at_call 27; with_reducible refine (hc44.out _).mono ?_; rintro e w2 ⟨rfl, hb2⟩; replace hcur := Hid.intro (hcur.out.step hb2); obtain ⟨d0, d1, d2, d3⟩ := hcur.out.box; simp only [Nat.zero_add] at d1 d2 d3; have oc0 := hcur.out.cell; have oc := cellA oc0)
              | (at_builtin; go_must (refine wpList_append_own _ rfl (.tmp 99) (.tmp 101) 31 rfl lo 62 j0 (.slice none 0 0) 1 24 Try.underlying31 hj hy0 hy1 hy2 rfl (by decide) (.slice a1 k7 c1) k7 vs rfl ((ownsRow_below hrowH.out hcur.out.bel).alloc _) ⟨w2.heap.size, 0, none⟩ 1 1 [.slice a2 k8 c2] rfl rfl (cells_new _ _ _) (by simp [Value.oneCell']) (by unfold maxLen; omega) (by omega) (by have := hcur.out.bel.size; simp; omega) ?_; intro v2 w3 hown3 hgrow3 _; obtain ⟨oc3, of3⟩ := cur_out hcur.out hbolt hvaH.out hgrow3; obtain ⟨a3, c3, rfl⟩ := own_slice hown3)))
            all_goals first | omega | skip
            go_roundw
            case rel => exact ⟨i + 1, [], acc ++ [arg], _, vs ++ [.slice a2 k8 c2], w3.heap.size, by go_num, Hid.intro (hn.out w2 w3 _ _ hcur.out hgrow3 (by rw [← hk7H.out]; exact hown3))⟩
            case measure => simp [intOf]; omega
      · have hc58 := Hid.intro (refSign_b t 58 true h1)
        have hRe : Hid (R = .error t.place) := by
          show R = _
          rw [hS.out.eq, drop_at ts i t htH.out, argsF_sign _ _ _ _ _ h1]
          rfl
        clear h1
        go_wp2_with (go_at_call 27; with_reducible refine (hc58.out _).mono ?_; rintro e w2 ⟨rfl, hb2⟩; replace hcur := Hid.intro (hcur.out.step hb2); obtain ⟨d0, d1, d2, d3⟩ := hcur.out.box; simp only [Nat.zero_add] at d1 d2 d3; replace hrt := Hid.intro (res_below hS.out.res hcur.out.bel))
        all_goals first | omega | skip
        obtain ⟨rh, r0, r1, r2, f0, f1, f2⟩ := hrt.out
        replace rh := Hid.intro rh
        have hne3 : ¬ w.heap.size = wr.heap.size := by omega
        have hne4 : ¬ wr.heap.size = w.heap.size := by omega
        go_region
        go_wp2
        obtain ⟨s1, s2, s3⟩ := line_set rh.out rfl (.string ⟨#[]⟩) (.string ⟨#[]⟩) (.slice none 0 0)
        generalize (((w2.setCell ⟨w.heap.size, 0, none⟩ (.string ⟨#[]⟩)).setCell ⟨w.heap.size, 1, none⟩ (.string ⟨#[]⟩)).setCell ⟨w.heap.size, 2, none⟩ (.slice none 0 0)) = w4 at s1 s2 s3 ⊢
        have s1' : w4.drew.heap[w.heap.size]? = some (.cells #[.string ⟨#[]⟩, .string ⟨#[]⟩, .slice none 0 0] 33 (0, 0)) := s1
        obtain ⟨z0, z1, z2⟩ := line_read s1'
        refine bodyPost_ret (by simp [results, Try.results13, go_sem, z0, z1, z2]; try rfl) rfl ?_
        rw [hRe.out]
        exact ⟨((hS.out.bel.trans (hcur.out.bel.mono (by omega))).trans s2).drew, rfl⟩
    · have hin : Hid (i = ts.length) := by
        show i = _
        rw [← hnH.out]
        omega
      obtain ⟨rh, r0, r1, r2, f0, f1, f2⟩ := hrt.out
      replace rh := Hid.intro rh
      by_cases h0 : k8 = 0
      · have hRe : Hid (R = .error s.size) := by
          show R = _
          rw [hS.out.eq, hin.out, List.drop_length, argsF, if_pos (by rw [← hk8H.out]; exact h0)]
          rfl
        have hz : ((k8 : Int) == 0) = true := by simp [h0]
        clear h0
        go_wp2
        all_goals first | omega | skip
        obtain ⟨s1, s2, s3⟩ := line_set rh.out rfl (.string ⟨#[]⟩) (.string ⟨#[]⟩) (.slice none 0 0)
        generalize (((wr.setCell ⟨w.heap.size, 0, none⟩ (.string ⟨#[]⟩)).setCell ⟨w.heap.size, 1, none⟩ (.string ⟨#[]⟩)).setCell ⟨w.heap.size, 2, none⟩ (.slice none 0 0)) = w4 at s1 s2 s3 ⊢
        obtain ⟨z0, z1, z2⟩ := line_read s1
        refine bodyPost_ret (by simp [results, Try.results13, go_sem, z0, z1, z2]; try rfl) rfl ?_
        rw [hRe.out]
        exact ⟨hS.out.bel.trans s2, rfl⟩
      · have hS' : Hid (PSt ts s.size w R [] t.text g w.heap.size bo lo ts.length arg acc (.slice a1 k7 c1) (.slice a2 k8 c2) vs m wr) := by
          have := hS.out
          rwa [hin.out] at this
        have hn := Hid.intro (fun (w3 : World) (v2 : Value) (o : Obj) => pst_end hS'.out (by rw [← hk8H.out]; exact h0) w3 v2 o)
        have hz : ((k8 : Int) == 0) = false := by simp [h0]
        have hne3 : ¬ w.heap.size = bo := hS.out.bor.2.2
        have hne4 : ¬ bo = w.heap.size := fun e => hS.out.bor.2.2 e.symm
        have oc0 := (line_read hS.out.out).2.2
        have oc := cellA oc0
        clear h0 r0 r1 r2 f0 f1 f2
        go_wp2_with (at_builtin; go_must (refine wpList_append_own _ rfl (.tmp 119) (.tmp 121) 31 rfl lo 62 j0 (.slice none 0 0) 1 24 Try.underlying31 hj hy0 hy1 hy2 rfl (by decide) (.slice a1 k7 c1) k7 vs rfl (hrowH.out.alloc _) ⟨wr.heap.size, 0, none⟩ 1 1 [.slice a2 k8 c2] rfl rfl (cells_new _ _ _) (by simp [Value.oneCell']) (by unfold maxLen; omega) (by omega) (by simp; omega) ?_; intro v2 w3 hown3 hgrow3 _; obtain ⟨a3, c3, rfl⟩ := own_slice hown3; obtain ⟨e1, e2, e3, e4, e5, e6, e7⟩ := hn.out w3 _ _ hgrow3 (by rw [← hk7H.out]; exact hown3); replace e1 := Hid.intro e1; replace e2 := Hid.intro e2; replace e4 := Hid.intro e4; obtain ⟨l0, l1, l2⟩ := line_read e2.out; obtain ⟨rh3, r0, r1, r2, f0, f1, f2⟩ := e3; replace rh3 := Hid.intro rh3))
        all_goals first | omega | skip
        obtain ⟨s1, s2, s3⟩ := line_set rh3.out rfl (.string (str [])) (.string (str t.text)) (.slice a3 (k7 + 1) c3)
        generalize (w3.setCell ⟨bo, 2, none⟩ (.slice a3 (k7 + 1) c3)) = w5 at s1 s2 s3 e4 e5 ⊢
        generalize (((w5.setCell ⟨w.heap.size, 0, none⟩ (.string (str []))).setCell ⟨w.heap.size, 1, none⟩ (.string (str t.text))).setCell ⟨w.heap.size, 2, none⟩ (.slice a3 (k7 + 1) c3)) = w4 at s1 s2 s3 ⊢
        obtain ⟨z0, z1, z2⟩ := line_read s1
        refine bodyPost_ret (by simp [results, Try.results13, go_sem, z0, z1, z2]; try rfl) rfl ?_
        rw [e1.out]
        have hAf := e4.out.lower s3 hS.out.bor.1
        have hlf : (acc ++ [arg]).length = k7 + 1 := by rw [← hAf.len, List.length_append, ← hk7H.out]; rfl
        refine ⟨e5.trans s2, a3, c3, ?_, hAf.lies⟩
        show _ = Ending.returned (Value.tuple #[.agg #[.string (str []), .string (str t.text), .slice a3 (acc ++ [arg]).length c3], .int .i64 0, .int .i64 0])
        rw [hlf]
end Go.Proofs.Ytdmhdhmclcogoaa
