/- line.arguments: the walk. -/
import Derived.Test.YtogkchgjpflmjaaGreatDoorAllIt
/- line.arguments. -/
namespace Go.Proofs.YtogkchgjpflmjaaGreatDoor
open Go.ChangeShapes Go.WideShapes Go.ChangeAt Go.RowKit
set_option linter.unusedVariables false
set_option maxRecDepth 100000
theorem Tryz.info182 : (Tryz.prog.info? 182).map (fun i => (i.zero, i.size, i.bytes)) = some (some (.slice none 0 0), 1, 24) := by kernel_rfl
abbrev ltokO (t : Tok) : Obj := .cells #[.int .i64 t.kind, .string (str t.text), .int .u32 t.num, .int .i64 (t.place : Int)] 188
theorem box_new (w : World) (t : Tok) : TokOff (w.alloc (ltokO t)) w.heap.size 0 t := by
  have key : ∀ k, (w.alloc (ltokO t)).cell? ⟨w.heap.size, k, none⟩ = (#[Value.int .i64 t.kind, .string (str t.text), .int .u32 t.num, .int .i64 (t.place : Int)] : Array Value)[k]? := fun k => by
    rw [cell_of_row _ _ _ _ 188 (0, 0) (heap_alloc_new w _)]
  exact ⟨key 0, key 1, key 2, key 3⟩
theorem box_below {w w1 : World} {t : Tok} (hb : Below (w.alloc (ltokO t)).heap.size (w.alloc (ltokO t)) w1) : TokOff w1 w.heap.size 0 t := (box_new w t).below hb (by simp)
theorem lalloc_lt {w w1 : World} {o : Obj} (hb : Below (w.alloc o).heap.size (w.alloc o) w1) : w.heap.size < w1.heap.size := by
  have := hb.size
  simp at this
  omega
theorem lone_below {w w1 : World} {o : Obj} (hb : Below (w.alloc o).heap.size (w.alloc o) w1) : Below w.heap.size w w1 := (lbelow_alloc w o).trans (hb.mono (by simp))
theorem ltwo_below {w w1 w2 : World} {o : Obj} (hb : Below (w.alloc o).heap.size (w.alloc o) w1) (hb2 : Below w1.heap.size w1 w2) : Below w.heap.size w w2 := (lone_below hb).trans (hb2.mono (lone_below hb).size)
structure LASt (ts : List Tok) (e : Nat) (w0 : World) (R : Except Nat (List (List Tok))) (i : Nat) (arg : List Tok) (acc : List (List Tok)) (va v : Value) (vs : List Value) (m : Nat) (w : World) : Prop where
  le : i ≤ ts.length
  few : arg.length ≤ i
  fewA : acc.length ≤ i
  eq : R = argsF e (ts.drop i) arg acc
  own : w.ownsRow m 188 4 v arg.length (rowOf arg)
  args : ArgsOwn 182 188 w0.heap.size w va acc vs m
  lo : w0.heap.size ≤ m
  bel : Below w0.heap.size w0 w
def AOut (B : Nat) (w0 : World) (R : Except Nat (List (List Tok))) (e : Ending) (w' : World) : Prop := Below B w0 w' ∧
  match R with
  | .ok acc => ∃ va vs m, e = .returned (.tuple #[va, .int .i64 0, .int .i64 0]) ∧ ArgsOwn 182 188 B w' va acc vs m
  | .error p => e = .returned (.tuple #[.slice none 0 0, .int .i64 (p : Int), .int .i64 20])
theorem lown_slice {w : World} {lo : Nat} {T : TypeId} {sz : Nat} {v : Value} {n : Nat} {xs : List Value} (h : w.ownsRow lo T sz v n xs) : ∃ a c, v = .slice a n c := by
  obtain ⟨hl, ⟨hv, h0⟩ | ⟨g, cap, cur, hv, r⟩⟩ := h
  · exact ⟨none, 0, by rw [hv, h0]⟩
  · exact ⟨_, cap, hv⟩
theorem ldrop_at {α : Type} (ts : List α) (i : Nat) (t : α) (h : ts[i]? = some t) : ts.drop i = t :: ts.drop (i + 1) := by
  obtain ⟨hi, he⟩ := List.getElem?_eq_some_iff.1 h
  rw [List.drop_eq_getElem_cons hi, he]
theorem ast_more {ts : List Tok} {e : Nat} {w0 : World} {R : Except Nat (List (List Tok))} {i : Nat} {arg : List Tok} {acc : List (List Tok)} {va v : Value} {vs : List Value} {m : Nat} {w : World} (h : LASt ts e w0 R i arg acc va v vs m w)
    (t : Tok) (ht : ts[i]? = some t) (h1 : isS t 58 = false) (h2 : isS t 44 = false) (w2 w3 : World) (v2 : Value) (o : Obj) (hb : Below w.heap.size w w2) (hg : (w2.alloc o).grownBy w3 v.ownBlock)
    (ho : w3.ownsRow m 188 4 v2 (arg.length + 1) (rowOf arg ++ t.cells)) : LASt ts e w0 R (i + 1) (arg ++ [t]) acc va v2 vs m w3 := by
  have hi := (List.getElem?_eq_some_iff.1 ht).1
  have hf := h.few
  have hfA := h.fewA
  have hsz := h.bel.size
  have hb' := hb.size
  have hlo := h.lo
  have hm := h.args.le
  refine ⟨by omega, by simp; omega, by omega, ?_, ?_, ?_, h.lo, ?_⟩
  · rw [h.eq, ldrop_at ts i t ht, argsF_more _ _ _ _ _ h1 h2]
  · rw [rowOf_push, List.length_append]
    exact ho
  · exact ((h.args.below hb).below (lbelow_alloc w2 o)).arg (by decide) ((ownsRow_below h.own hb).alloc o) hg
  · exact ((h.bel.trans (hb.mono (by omega))).alloc (by omega) o).grown hg (by simp; omega) (fun k hk => by have := (h.own.lt k hk).1; omega)
theorem ast_comma {ts : List Tok} {e : Nat} {w0 : World} {R : Except Nat (List (List Tok))} {i : Nat} {arg : List Tok} {acc : List (List Tok)} {va v : Value} {vs : List Value} {m : Nat} {w : World} (h : LASt ts e w0 R i arg acc va v vs m w)
    (t : Tok) (ht : ts[i]? = some t) (h1 : isS t 58 = false) (h2 : isS t 44 = true) (h0 : arg.length ≠ 0) (w2 w3 : World) (va2 : Value) (o : Obj) (hb : Below w.heap.size w w2) (hg : (w2.alloc o).grownBy w3 va.ownBlock)
    (ho : w3.ownsRow w0.heap.size 182 1 va2 (vs.length + 1) (vs ++ [v])) : LASt ts e w0 R (i + 1) [] (acc ++ [arg]) va2 (.slice none 0 0) (vs ++ [v]) w3.heap.size w3 := by
  have hi := (List.getElem?_eq_some_iff.1 ht).1
  have hf := h.few
  have hfA := h.fewA
  have hsz := h.bel.size
  have hb' := hb.size
  have hlo := h.lo
  have hm := h.args.le
  have hg' := hg.size
  simp at hg'
  refine ⟨by omega, by simp, by simp; omega, ?_, World.ownsRow_nil _ _ _ _, ?_, by omega, ?_⟩
  · rw [h.eq, ldrop_at ts i t ht, argsF_comma _ _ _ _ _ h1 h2 h0]
  · exact ((h.args.below hb).below (lbelow_alloc w2 o)).push (by decide) h.lo h0 ((ownsRow_below h.own hb).alloc o) hg ho
  · exact ((h.bel.trans (hb.mono (by omega))).alloc (by omega) o).grown hg (by simp; omega) (fun k hk => (h.args.row.lt k hk).1)
theorem ast_end {ts : List Tok} {e : Nat} {w0 : World} {R : Except Nat (List (List Tok))} {arg : List Tok} {acc : List (List Tok)} {va v : Value} {vs : List Value} {m : Nat} {w : World} (h : LASt ts e w0 R ts.length arg acc va v vs m w)
    (h0 : arg.length ≠ 0) (w3 : World) (va2 : Value) (o : Obj) (hg : (w.alloc o).grownBy w3 va.ownBlock) (ho : w3.ownsRow w0.heap.size 182 1 va2 (vs.length + 1) (vs ++ [v])) :
    AOut w0.heap.size w0 R (.returned (.tuple #[va2, .int .i64 0, .int .i64 0])) w3 := by
  have hsz := h.bel.size
  have hm := h.args.le
  have hR : R = .ok (acc ++ [arg]) := by rw [h.eq, List.drop_length, argsF, if_neg h0]
  rw [hR]
  refine ⟨(h.bel.alloc (by omega) o).grown hg (by simp; omega) (fun k hk => (h.args.row.lt k hk).1), va2, vs ++ [v], w3.heap.size, rfl, ?_⟩
  exact (h.args.below (lbelow_alloc w o)).push (by decide) h.lo h0 (h.own.alloc o) hg ho
end Go.Proofs.YtogkchgjpflmjaaGreatDoor
namespace Go.Proofs.YtogkchgjpflmjaaGreatDoor
open Go.ChangeShapes Go.WideShapes Go.ChangeAt Go.RowKit
set_option linter.unusedVariables false
set_option maxRecDepth 100000
set_option maxHeartbeats 2000000 in
theorem arguments_any (a : Option Addr) (c : Nat) (ts : List Tok) (e : Nat) (w : World) (hm : ts.length ≤ 1100000) (he : e ≤ 1100000) (hT : TokFrom w a ts) :
    Calls Tryz.prog 103 #[.slice a ts.length c, .int .i64 (e : Int)] w fun x w' => AOut w.heap.size w (argsT e ts) x w' := by
  obtain ⟨n0, hn0⟩ : ∃ n0, n0 = ts.length := ⟨_, rfl⟩
  rw [← hn0] at hm ⊢
  by_cases h0 : n0 = 0
  · have hR : argsT e ts = .ok [] := by unfold argsT; rw [if_pos (by omega)]
    rw [hR]
    subst h0
    go_enter Tryz.func103, Tryz.ntmps103
    go_wp2
    go_ret3
    exact ⟨Below.refl _ _, _, _, w.heap.size, rfl, ArgsOwn.start _ _ _ _ _ (Nat.le_refl _)⟩
  · obtain ⟨R, hR⟩ : ∃ R, R = argsT e ts := ⟨_, rfl⟩
    rw [← hR]
    have hR' : R = argsF e ts [] [] := by rw [hR]; unfold argsT; rw [if_neg (by omega)]
    have hstart : Hid (LASt ts e w R 0 [] [] (.slice none 0 0) (.slice none 0 0) [] w.heap.size w) := ⟨by omega, by simp, by simp, by rw [List.drop_zero]; exact hR', World.ownsRow_nil _ _ _ _, ArgsOwn.start _ _ _ _ _ (Nat.le_refl _), Nat.le_refl _, Below.refl _ _⟩
    rcases hT with hT | ⟨g, o, rfl, hg, hT⟩
    · rw [hT] at hn0; simp at hn0; omega
    · have hTH := Hid.intro hT
      have hnH := Hid.intro hn0
      clear hT hR hR' hn0
      obtain ⟨i0, hi, hz0, hz1, hz2⟩ := info_parts Tryz.info188
      obtain ⟨j0, hj, hy0, hy1, hy2⟩ := info_parts Tryz.info182
      have hn1 : ((n0 : Int) == 0) = false := by simp; omega
      go_enter Tryz.func103, Tryz.ntmps103
      go_wp2
      all_goals first | omega | skip
      go_loopw [7, 8, 17] (fun v7 v8 vi wr => ∃ (i : Nat) (arg : List Tok) (acc : List (List Tok)) (vs : List Value) (m : Nat), vi = .int .i64 (i : Int) ∧ Hid (LASt ts e w R i arg acc v7 v8 vs m wr)) (fun _ _ vi _ => n0 - (intOf vi).toNat)
      case atStart => exact ⟨0, [], [], [], w.heap.size, rfl, hstart⟩
      case round =>
        clear hstart
        obtain ⟨i, arg, acc, vs, m, rfl, hS⟩ := hrel
        obtain ⟨a1, c1, rfl⟩ := lown_slice hS.out.args.row
        obtain ⟨a2, c2, rfl⟩ := lown_slice hS.out.own
        have hle := hS.out.le
        have hfew := hS.out.few
        have hfewA := hS.out.fewA
        have hvl : vs.length ≤ i := by have := hS.out.args.len; omega
        rw [← hnH.out] at hle
        obtain ⟨k7, hk7⟩ : ∃ k7, k7 = vs.length := ⟨_, rfl⟩
        obtain ⟨k8, hk8⟩ : ∃ k8, k8 = arg.length := ⟨_, rfl⟩
        rw [← hk7, ← hk8] at hS
        rw [← hk7] at hvl ⊢
        rw [← hk8] at hfew ⊢
        have hk7H := Hid.intro hk7
        have hk8H := Hid.intro hk8
        clear hk7 hk8
        have hownH : Hid (wr.ownsRow m 188 4 (.slice a2 k8 c2) k8 (rowOf arg)) := by
          have := hS.out.own
          rwa [← hk8H.out] at this
        have hrowH : Hid (wr.ownsRow w.heap.size 182 1 (.slice a1 k7 c1) k7 vs) := by
          have := hS.out.args.row
          rwa [← hk7H.out] at this
        have hmle := hS.out.args.le
        have hmlo := hS.out.lo
        by_cases hlt : i < n0
        · obtain ⟨t, ht⟩ : ∃ t, ts[i]? = some t := ⟨ts[i]'(by rw [← hnH.out]; exact hlt), List.getElem?_eq_getElem _⟩
          have htH := Hid.intro ht
          clear ht
          have hgr : g < wr.heap.size := Nat.lt_of_lt_of_le hg hS.out.bel.size
          obtain ⟨q0, q1, q2, q3⟩ := (hTH.out i t htH.out).below hS.out.bel hg
          cases h1 : isS t 58
          · cases h2 : isS t 44
            · have hc58 := Hid.intro (lineSign_b t 58 false h1)
              have hc44 := Hid.intro (lineSign_b t 44 false h2)
              have hn := Hid.intro (fun (w2 w3 : World) (v2 : Value) (o : Obj) => ast_more hS.out t htH.out h1 h2 w2 w3 v2 o)
              clear h1 h2
              go_wp2_with (first
                | (go_at_call 130; with_reducible refine (hc44.out _).mono ?_; rintro e w1 ⟨rfl, hb1⟩; obtain ⟨b0, b1, b2, b3⟩ := box_below hb1; simp only [Nat.zero_add] at b1 b2 b3)
                | (go_at_call 130; with_reducible refine (hc58.out _).mono ?_; rintro e w2 ⟨rfl, hb2⟩; obtain ⟨d0, d1, d2, d3⟩ := (box_below hb1).below hb2 (lalloc_lt hb1); simp only [Nat.zero_add] at d1 d2 d3)
                | (at_builtin; go_must (refine wpList_append_own_wide _ rfl (.tmp 23) (.tmp 25) 182 rfl m 188 i0 (.agg #[.int .i64 0, .string ⟨#[]⟩, .int .u32 0, .int .i64 0]) 4 40 Tryz.underlying182 hi hz0 hz1 hz2 rfl (by decide) (.slice a2 k8 c2) k8 (rowOf arg) rfl ((ownsRow_below hownH.out (ltwo_below hb1 hb2)).alloc _) ⟨w2.heap.size, 0, none⟩ 1 1 [.int .i64 t.kind, .string (str t.text), .int .u32 t.num, .int .i64 (t.place : Int)] rfl rfl (cells_new _ _ _) (by simp [Value.oneCell']) (by unfold maxLen; omega) (by omega) (by have := (ltwo_below hb1 hb2).size; simp; omega) ?_; intro v2 w3 hown3 hgrow3 _)))
              all_goals first | omega | skip
              go_roundw
              case rel => exact ⟨i + 1, arg ++ [t], acc, vs, m, by go_num, hn.out w2 w3 v2 _ (ltwo_below hb1 hb2) hgrow3 (by rw [← hk8H.out]; exact hown3)⟩
              case measure => simp [intOf]; omega
            · have hc58 := Hid.intro (lineSign_b t 58 false h1)
              have hc44 := Hid.intro (lineSign_b t 44 true h2)
              by_cases h0 : k8 = 0
              · have hR : Hid (R = .error t.place) := by
                  show R = _
                  rw [hS.out.eq, ldrop_at ts i t htH.out, argsF_empty _ _ _ _ _ h1 h2 (by rw [← hk8H.out]; exact h0)]
                have hz : ((k8 : Int) == 0) = true := by simp [h0]
                clear h1 h2 h0
                go_wp2_with (first
                  | (go_at_call 130; with_reducible refine (hc44.out _).mono ?_; rintro e w1 ⟨rfl, hb1⟩; obtain ⟨b0, b1, b2, b3⟩ := box_below hb1; simp only [Nat.zero_add] at b1 b2 b3)
                  | (go_at_call 130; with_reducible refine (hc58.out _).mono ?_; rintro e w2 ⟨rfl, hb2⟩; obtain ⟨d0, d1, d2, d3⟩ := (box_below hb1).below hb2 (lalloc_lt hb1); simp only [Nat.zero_add] at d1 d2 d3))
                all_goals first | omega | skip
                go_quiet (fail)
                go_wp2
                all_goals first | omega | skip
                go_ret3
                rw [hR.out]
                exact ⟨below_drewN (hS.out.bel.trans ((ltwo_below hb1 hb2).mono hS.out.bel.size)) nq, rfl⟩
              · have hn := Hid.intro (fun (w2 w3 : World) (v2 : Value) (o : Obj) => ast_comma hS.out t htH.out h1 h2 (by rw [← hk8H.out]; exact h0) w2 w3 v2 o)
                have hz : ((k8 : Int) == 0) = false := by simp [h0]
                clear h1 h2 h0
                go_wp2_with (first
                  | (go_at_call 130; with_reducible refine (hc44.out _).mono ?_; rintro e w1 ⟨rfl, hb1⟩; obtain ⟨b0, b1, b2, b3⟩ := box_below hb1; simp only [Nat.zero_add] at b1 b2 b3)
                  | (go_at_call 130; with_reducible refine (hc58.out _).mono ?_; rintro e w2 ⟨rfl, hb2⟩; obtain ⟨d0, d1, d2, d3⟩ := (box_below hb1).below hb2 (lalloc_lt hb1); simp only [Nat.zero_add] at d1 d2 d3)
                  | (at_builtin; go_must (refine wpList_append_own _ rfl (.tmp 40) (.tmp 42) 131 rfl w.heap.size 182 j0 (.slice none 0 0) 1 24 Tryz.underlying131 hj hy0 hy1 hy2 rfl (by decide) (.slice a1 k7 c1) k7 vs rfl ((ownsRow_below hrowH.out (ltwo_below hb1 hb2)).alloc _) ⟨w2.heap.size, 0, none⟩ 1 1 [.slice a2 k8 c2] rfl rfl (cells_new _ _ _) (by simp [Value.oneCell']) (by unfold maxLen; omega) (by omega) (by have := (ltwo_below hb1 hb2).size; simp; omega) ?_; intro v2 w3 hown3 hgrow3 _)))
                all_goals first | omega | skip
                go_roundw
                case rel => exact ⟨i + 1, [], acc ++ [arg], vs ++ [.slice a2 k8 c2], w3.heap.size, by go_num, Hid.intro (hn.out w2 w3 v2 _ (ltwo_below hb1 hb2) hgrow3 (by rw [← hk7H.out]; exact hown3))⟩
                case measure => simp [intOf]; omega
          · have hc58 := Hid.intro (lineSign_b t 58 true h1)
            have hc44 := Hid.intro (fun w => lineSign_b t 44 _ rfl w)
            have hR : Hid (R = .error t.place) := by
              show R = _
              rw [hS.out.eq, ldrop_at ts i t htH.out, argsF_sign _ _ _ _ _ h1]
            clear h1
            obtain ⟨bc, hbc⟩ : ∃ bc, bc = isS t 44 := ⟨_, rfl⟩
            rw [← hbc] at hc44
            clear hbc
            go_wp2_with (first
              | (go_at_call 130; with_reducible refine (hc44.out _).mono ?_; rintro e w1 ⟨rfl, hb1⟩; obtain ⟨b0, b1, b2, b3⟩ := box_below hb1; simp only [Nat.zero_add] at b1 b2 b3)
              | (go_at_call 130; with_reducible refine (hc58.out _).mono ?_; rintro e w2 ⟨rfl, hb2⟩; obtain ⟨d0, d1, d2, d3⟩ := (box_below hb1).below hb2 (lalloc_lt hb1); simp only [Nat.zero_add] at d1 d2 d3))
            all_goals first | omega | skip
            go_quiet (fail)
            go_wp2
            all_goals first | omega | skip
            go_ret3
            rw [hR.out]
            exact ⟨below_drewN (hS.out.bel.trans ((ltwo_below hb1 hb2).mono hS.out.bel.size)) nq, rfl⟩
        · have hin : Hid (i = ts.length) := by
            show i = _
            rw [← hnH.out]
            omega
          by_cases h0 : k8 = 0
          · have hR : Hid (R = .error e) := by
              show R = _
              rw [hS.out.eq, hin.out, List.drop_length, argsF, if_pos (by rw [← hk8H.out]; exact h0)]
            have hz : ((k8 : Int) == 0) = true := by simp [h0]
            clear h0
            go_wp2
            all_goals first | omega | skip
            go_ret3
            rw [hR.out]
            exact ⟨hS.out.bel, rfl⟩
          · have hS' : Hid (LASt ts e w R ts.length arg acc (.slice a1 k7 c1) (.slice a2 k8 c2) vs m wr) := by
              have := hS.out
              rwa [hin.out] at this
            have hn := Hid.intro (fun (w3 : World) (v2 : Value) (o : Obj) => ast_end hS'.out (by rw [← hk8H.out]; exact h0) w3 v2 o)
            have hz : ((k8 : Int) == 0) = false := by simp [h0]
            clear h0
            go_wp2_with (at_builtin; go_must (refine wpList_append_own _ rfl (.tmp 49) (.tmp 51) 131 rfl w.heap.size 182 j0 (.slice none 0 0) 1 24 Tryz.underlying131 hj hy0 hy1 hy2 rfl (by decide) (.slice a1 k7 c1) k7 vs rfl (hrowH.out.alloc _) ⟨wr.heap.size, 0, none⟩ 1 1 [.slice a2 k8 c2] rfl rfl (cells_new _ _ _) (by simp [Value.oneCell']) (by unfold maxLen; omega) (by omega) (by simp; omega) ?_; intro v2 w3 hown3 hgrow3 _))
            all_goals first | omega | skip
            go_ret3
            exact hn.out w3 v2 _ hgrow3 (by rw [← hk7H.out]; exact hown3)
end Go.Proofs.YtogkchgjpflmjaaGreatDoor
