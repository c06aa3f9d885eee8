/- equ.walk: its state as it is laid. -/
import Derived.Test.YtebbbefknfldoaaWk5
import Derived.BigQuiet
import Derived.Laws.MakeOwn
/- equ.walk's visit: its walk. -/
namespace Go.Proofs.Ytebbbefknfldoaa
open Go.ChangeShapes Go.WideShapes Go.ChangeAt Go.RowKit
set_option linter.unusedVariables false
set_option linter.unusedSimpArgs false
set_option maxRecDepth 100000
section
variable {w0 : World} {b : Nat → Nat} {l : List Eqv} {la : Option Addr} {lc na : Nat}
theorem below_drewV {B : Nat} {a w : World} (h : Below B a w) (n : Nat) : Below B a (w.drewN n) := ⟨h.os, h.tape, h.output, h.size, h.block⟩
def ViO (w0 : World) (b : Nat → Nat) (l : List Eqv) (la : Option Addr) (lc na : Nat) (r : Nat × Ta.St) (e : Ending) (w' : World) : Prop := e = .returned (.int .i64 (r.1 : Int)) ∧ ∃ nb', nb' ≤ r.2.order.length ∧ FS w0 b l la lc na nb' r.2 w'
abbrev visA (b : Nat → Nat) (i : Nat) : Array Value := #[.int .i64 (i : Int), bp b 5, bp b 0, bp b 1, bp b 2, bp b 6, bp b 8, bp b 7]
set_option maxHeartbeats 16000000 in
theorem visit_step (hl : l.length ≤ 1000) (hnd : (l.map (·.1)).Nodup) (hheld : ∀ q ∈ l, q.1.length ≤ 140737488355328 ∧ q.2.terms.length ≤ 4400000 ∧ ∀ t ∈ q.2.terms, t.name.length ≤ 140737488355328) (f : Nat)
    (hvis : ∀ (t : Nat) (s : Ta.St) (nb : Nat) (W : World), FS w0 b l la lc na nb s W → nb ≤ s.order.length → Sz s → Ta.Inv (adjF l) l.length s → s.met t = 0 → t < l.length → (∀ v ∈ s.opn, Ta.Rch (adjF l) v t) → Ta.left l.length s.met ≤ f → Calls Try.prog 44 (visA b t) W fun e w' => ViO w0 b l la lc na (Ta.visitF (adjF l) (selfF l) f t s) e w')
    (i : Nat) (s : Ta.St) (nb : Nat) (w : World) (h : FS w0 b l la lc na nb s w) (hnb : nb ≤ s.order.length) (hsz : Sz s) (hS : Ta.Inv (adjF l) l.length s) (h0 : s.met i = 0) (hin : i < l.length) (hi : ∀ v ∈ s.opn, Ta.Rch (adjF l) v i) (hf : Ta.left l.length s.met ≤ f + 1) :
    Calls Try.prog 44 (visA b i) w fun e w' => ViO w0 b l la lc na (Ta.visitF (adjF l) (selfF l) (f + 1) i s) e w' := by
  have hbig : l.length < Ta.big := Nat.lt_of_le_of_lt hl (by decide)
  have hct : s.count ≤ 1000 := by have := hS.cnt; omega
  have hop : s.opn.length ≤ 1000 := by unfold Sz at hsz; omega
  have hor : s.order.length ≤ 1000 := by unfold Sz at hsz; omega
  obtain ⟨i3, hi3, hz0, hz1, hz2⟩ := info_parts info3
  obtain ⟨gl, ol, rfl, q, va, vc, hlq, hgl, hq⟩ : ∃ gl ol, la = some ⟨gl, ol, none⟩ ∧ ∃ q va vc, l[i]? = some q ∧ gl < w0.heap.size ∧ EqAt w0 gl (ol + i * 3) q va vc := by
    rcases h.lie with e | ⟨gl, ol, e1, e2, e3⟩
    · rw [e] at hin; simp at hin
    · obtain ⟨va, vc, hq⟩ := e3 i l[i] (List.getElem?_eq_getElem hin)
      exact ⟨gl, ol, e1, l[i], va, vc, List.getElem?_eq_getElem hin, e2, hq⟩
  have hqm := hheld q (List.mem_of_getElem? hlq)
  obtain ⟨tn, htn⟩ : ∃ tn, tn = q.2.terms.length := ⟨_, rfl⟩
  have hadj : Hid (adjF l i = adjP l q.2.terms tn) := by show _ = _; unfold adjF adjP; rw [hlq, htn, List.take_length]
  have htc : Hid (∀ W, Below w0.heap.size w0 W → W.cell? ⟨gl, ol + i * 3 + 1, none⟩ = some (.slice va tn vc)) := fun W hB => by rw [htn]; exact (hq.below hgl hB).terms
  have htm : Hid (∀ k, k < tn → ∃ t gt ot, q.2.terms[k]? = some t ∧ t.name.length ≤ 140737488355328 ∧ va = some ⟨gt, ot, none⟩ ∧ ∀ W, Below w0.heap.size w0 W → TmAt W gt (ot + k * 2) t) := fun k hk => by
    have hk2 : k < q.2.terms.length := by omega
    rcases hq.lies with e | ⟨gt, ot, e1, e2, e3⟩
    · rw [e] at hk2; simp at hk2
    · exact ⟨q.2.terms[k], gt, ot, List.getElem?_eq_getElem hk2, hqm.2.2 _ (List.getElem_mem hk2), e1, fun W hB => (e3 k _ (List.getElem?_eq_getElem hk2)).below hB e2⟩
  have htn2 : tn ≤ 4400000 := by rw [htn]; exact hqm.2.1
  have hmem : Hid (∀ (k : Nat) (t : Tm) (u : Nat), q.2.terms[k]? = some t → atF l t.name = some (u : Int) → u ∈ adjF l i ∧ adjP l q.2.terms (k + 1) = adjP l q.2.terms k ++ [u]) := fun k t u h1 h2 => by
    refine ⟨?_, by rw [adjP_some h1 h2]; rfl⟩
    unfold adjF
    rw [hlq]
    exact List.mem_filterMap.2 ⟨t, List.mem_of_getElem? h1, by rw [h2]; rfl⟩
  generalize hts : q.2.terms = ts at *
  have c5 := (Joins.cell_of_block h.cb 0).trans rfl
  have f5 := frozen_of_row w (b 5) 0 _ 3 h.cb
  have hF1 := (h.cntSet (s.count + 1)).1
  rw [show (((s.count + 1 : Nat)) : Int) = (s.count : Int) + 1 by omega] at hF1
  replace hF1 := Hid.intro hF1
  have hs0 := Hid.intro (Ta.Lp.start hbig hS h0 hin)
  have hSH := Hid.intro hS
  have hiH := Hid.intro hi
  have hfH := Hid.intro hf
  have hvH := Hid.intro hvis
  have hszH := Hid.intro hsz
  have hheldH := Hid.intro hheld
  obtain ⟨cn, hcn⟩ : ∃ cn, cn = s.count := ⟨_, rfl⟩
  obtain ⟨on, hon⟩ : ∃ on, on = s.opn.length := ⟨_, rfl⟩
  rw [← hcn] at c5 hct hF1
  rw [← hon] at hop
  have hcnH := Hid.intro hcn
  have honH := Hid.intro hon
  have hnbH := Hid.intro hnb
  have hheld2 : Hid (∀ q ∈ l, q.1.length ≤ 140737488355328 ∧ q.2.terms.length ≤ 4400000) := fun q hq => ⟨(hheld q hq).1, (hheld q hq).2.1⟩
  clear hvis hheld hS hi hf hsz hcn hon h hqm hq hlq hts htn hheldH hnb
  go_enter Try.func44, Try.ntmps44
  go_upto_region 2 with fail
  all_goals first | omega | skip
  generalize w.setCell ⟨b 5, 0, none⟩ (.int .i64 ((cn : Int) + 1)) = W1 at *
  clear c5 f5
  obtain ⟨oa, oc, o1, _⟩ := hF1.out.op
  have o1' : W1.heap[b 0]? = some (.cells #[.slice oa on oc] 65 (0, 0)) := by rw [honH.out]; exact o1
  have d5 := (Joins.cell_of_block hF1.out.cb 0).trans rfl
  have d0 := (Joins.cell_of_block o1' 0).trans rfl
  go_quiet (fail)
  all_goals first | omega | skip
  have hF2 := Hid.intro (hF1.out.below (below_drewV (Below.refl W1.heap.size W1) nq))
  generalize W1.drewN nq = W2 at *
  clear hF1 d5 d0 o1 o1'
  have x1 := (Joins.cell_of_block hF2.out.mb 0).trans rfl
  have x9 := (Joins.cell_of_block hF2.out.mm i).trans (metR_get l.length _ i hin)
  have f9 := frozen_of_row W2 (b 9) i _ 3 hF2.out.mm
  have hF3 := (hF2.out.metSet i (cn + 1) hin).1
  rw [show ((cn + 1 : Nat) : Int) = (cn : Int) + 1 by omega] at hF3
  replace hF3 := Hid.intro hF3
  go_upto_region 5 with fail
  all_goals first | omega | skip
  generalize W2.setCell ⟨b 9, i, none⟩ (.int .i64 ((cn : Int) + 1)) = W3 at *
  clear x1 x9 f9 hF2
  obtain ⟨pa, pc, p1, _⟩ := hF3.out.op
  have p1' : W3.heap[b 0]? = some (.cells #[.slice pa on pc] 65 (0, 0)) := by rw [honH.out]; exact p1
  have y0 := (Joins.cell_of_block p1' 0).trans rfl
  have hF4 := Hid.intro (hF3.out.below (below_alloc W3 (.cells #[.int .i64 (i : Int)] 3)))
  have p4 : (W3.alloc (.cells #[.int .i64 (i : Int)] 3)).heap[b 0]? = some (.cells #[.slice pa on pc] 65 (0, 0)) := ((below_alloc W3 _).block _ (wblk_lt p1')).trans p1'
  have hown := (hF4.out.opAt p4).2
  have hownH : Hid ((W3.alloc (.cells #[.int .i64 (i : Int)] 3)).ownsRow w0.heap.size 3 1 (.slice pa on pc) on (rowN s.opn)) := by show World.ownsRow _ _ _ _ _ _ _; rw [honH.out]; exact hown
  have hsz4 := hF4.out.bel.size
  have hpush : Hid (∀ a3 c3 W5, W5.ownsRow w0.heap.size 3 1 (.slice a3 (on + 1) c3) (on + 1) (rowN s.opn ++ [.int .i64 (i : Int)]) → (W3.alloc (.cells #[.int .i64 (i : Int)] 3)).grownBy W5 (Value.slice pa on pc).ownBlock → ((Value.slice a3 (on + 1) c3).ownBlock = (Value.slice pa on pc).ownBlock ∨ (Value.slice a3 (on + 1) c3).ownBlock = some (W3.alloc (.cells #[.int .i64 (i : Int)] 3)).heap.size) → W5.heap[b 0]? = some (.cells #[.slice pa on pc] 65 (0, 0)) ∧ FS w0 b l (some ⟨gl, ol, none⟩) lc na nb (Ta.beginF i s) (W5.setCell ⟨b 0, 0, none⟩ (.slice a3 (on + 1) c3))) := fun a3 c3 W5 q1 q2 q3 => by
    have e := honH.out
    subst e
    obtain ⟨r1, r2⟩ := hF4.out.opPush p4 i q1 q2 q3
    refine ⟨r1, ?_⟩
    have eb : Ta.beginF i s = { ({ ({ s with count := cn + 1 } : Ta.St) with met := Ta.upd s.met i (cn + 1) } : Ta.St) with opn := s.opn ++ [i] } := by unfold Ta.beginF; rw [hcnH.out]
    rw [eb]
    exact r2
  clear p1 p1' hown hF3 hF4 p4
  go_upto_region 6 with (at_builtin; go_must (refine wpList_app rfl (.tmp 27) (.tmp 29) 65 rfl w0.heap.size 3 i3 _ 1 8 Try.underlying65 hi3 hz0 hz1 hz2 rfl (by decide) (.slice pa on pc) on (rowN s.opn) rfl hownH.out (.slice (some ⟨W3.heap.size, 0, none⟩) 1 1) 1 [.int .i64 (i : Int)] rfl (.inr ⟨_, _, rfl, cells_new W3 #[.int .i64 (i : Int)] 3⟩) rfl (by simp [Value.oneCell']) (by unfold maxLen; omega) (by omega) hsz4 ?_; intro v5 w5 ho5 hg5 hw5; obtain ⟨a5, c5, rfl⟩ := own_slice ho5; obtain ⟨e1, e2⟩ := hpush.out a5 c5 w5 ho5 hg5 hw5; have z0 := (Joins.cell_of_block e1 0).trans rfl; have zf := frozen_of_row w5 (b 0) 0 _ 65 e1; replace e2 := Hid.intro e2; clear ho5 hg5 hw5))
  all_goals first | omega | skip
  generalize w5.setCell ⟨b 0, 0, none⟩ (.slice a5 (on + 1) c5) = W6 at *
  clear z0 zf y0 hpush hownH hsz4
  have x2 := (Joins.cell_of_block e2.out.lb 0).trans rfl
  have x3 := htc.out W6 e2.out.bel
  have hV0 : Hid (VL w0 b l (some ⟨gl, ol, none⟩) lc na f i s ts 0 nb (cn + 1, Ta.beginF i s) W6) := by
    have e := hcnH.out
    subst e
    refine ⟨rfl, e2.out, ⟨[], hs0.out⟩, ?_, hnbH.out⟩
    have := hszH.out
    unfold Sz Ta.beginF at *
    simp
    omega
  go_wp2_with fail
  all_goals first | omega | skip
  clear x2 x3 hs0 e2
  go_loopw [12, 38] (fun v12 v38 wr => ∃ (k nb' : Nat) (a : Nat × Ta.St), k ≤ tn ∧ a.1 ≤ cn + 1 ∧ v38 = .int .i64 (k : Int) ∧ v12 = .int .i64 (a.1 : Int) ∧ Hid (VL w0 b l (some ⟨gl, ol, none⟩) lc na f i s ts k nb' a wr)) (fun v12 v38 _ => tn - (intOf v38).toNat)
  case atStart => exact ⟨0, nb, _, by omega, Nat.le_refl _, rfl, by first | rfl | (simp; done) | go_num, hV0⟩
  case round =>
    obtain ⟨k, nb', a, hk, hle, rfl, rfl, hV⟩ := hrel
    clear hV0
    by_cases hkn : k < tn
    · obtain ⟨t, gt, ot, htk, htl, hva, htat⟩ := htm.out k hkn
      subst hva
      obtain ⟨d0, d1⟩ := htat wr hV.out.fs.bel
      have hb7 := below_alloc wr (.cells #[.string (str t.name), .int .u32 t.coef] 49)
      have hV7 := Hid.intro (hV.out.below hb7)
      have hlook := intlook_run hV7.out.fs.aa t.name htl
      rw [show backF l (List.range l.length) = atF l from rfl] at hlook
      have x6 := (Joins.cell_of_block hV7.out.fs.ab 0).trans rfl
      have xt := (Joins.cell_of_block (heap_alloc_new wr (.cells #[.string (str t.name), .int .u32 t.coef] 49)) 0).trans rfl
      cases hat : atF l t.name with
      | none =>
        rw [hat] at hlook
        simp only [Option.getD_none, Option.isSome_none] at hlook
        have hVn := Hid.intro (hV.out.stay (adjP_none htk hat) hb7)
        clear hb7 hat htk hV hV7
        go_wp2_with fail
        all_goals first | omega | skip
        go_roundw
        case rel => exact ⟨k + 1, nb', a, by omega, hle, by go_num, rfl, hVn⟩
        case measure => simp [intOf]; omega
      | some z =>
        obtain ⟨u, hu, rfl, _⟩ := atF_some hat
        rw [hat] at hlook
        simp only [Option.getD_some, Option.isSome_some] at hlook
        obtain ⟨hua, hus⟩ := hmem.out k t u htk hat
        have x1 := (Joins.cell_of_block hV7.out.fs.mb 0).trans rfl
        have x9 := (Joins.cell_of_block hV7.out.fs.mm u).trans (metR_get l.length _ u hu)
        have x8 := (Joins.cell_of_block hV7.out.fs.vb 0).trans rfl
        by_cases hm : a.2.met u = 0
        · have hcall : Hid (Calls Try.prog 44 (visA b u) (wr.alloc (.cells #[.string (str t.name), .int .u32 t.coef] 49)) fun e w' => ViO w0 b l (some ⟨gl, ol, none⟩) lc na (Ta.visitF (adjF l) (selfF l) f u a.2) e w') := by
            obtain ⟨tail, L⟩ := hV7.out.lp
            exact hvH.out u a.2 nb' _ hV7.out.fs hV7.out.nb hV7.out.sz L.inv hm hu (hV7.out.reach hiH.out hua) (by have := L.lft; have := hfH.out; omega)
          unfold ViO at hcall
          have hstep : Hid (Ta.stepF (Ta.visitF (adjF l) (selfF l) f) a u = (min a.1 (Ta.visitF (adjF l) (selfF l) f u a.2).1, (Ta.visitF (adjF l) (selfF l) f u a.2).2)) := if_pos hm
          have hgo : Hid (∀ nb2 W2, nb2 ≤ (Ta.visitF (adjF l) (selfF l) f u a.2).2.order.length → FS w0 b l (some ⟨gl, ol, none⟩) lc na nb2 (Ta.visitF (adjF l) (selfF l) f u a.2).2 W2 → VL w0 b l (some ⟨gl, ol, none⟩) lc na f i s ts (k + 1) nb2 (min a.1 (Ta.visitF (adjF l) (selfF l) f u a.2).1, (Ta.visitF (adjF l) (selfF l) f u a.2).2) W2) := fun nb2 W2 h1 h2 => by
            have := hV7.out.go (W2 := W2) (nb2 := nb2) hbig hnd hSH.out hiH.out hfH.out hua hus (by rw [hstep.out]; exact h2) (by rw [hstep.out]; exact h1)
            rw [hstep.out] at this
            exact this
          generalize (Ta.visitF (adjF l) (selfF l) f u a.2).1 = rv at *
          generalize (Ta.visitF (adjF l) (selfF l) f u a.2).2 = rs at *
          rw [hm] at x9
          clear hb7 hat htk hV hV7 hstep hua hus
          go_wp2_with (go_at_call 44; (with_reducible refine (hcall.out).mono ?_); rintro e w8 ⟨rfl, nb2, h1, h2⟩; have hV8 := Hid.intro (hgo.out nb2 w8 h1 h2); clear h1 h2)
          all_goals first | omega | skip
          all_goals go_roundw
          all_goals first
            | exact ⟨k + 1, nb2, _, by omega, Nat.le_trans (Nat.min_le_left _ _) hle, by go_num, by first | rfl | (congr 1; omega) | (simp; omega), hV8⟩
            | (simp [intOf]; omega)
        · have hstep : Hid (Ta.stepF (Ta.visitF (adjF l) (selfF l) f) a u = (min a.1 (a.2.met u), a.2)) := if_neg hm
          have hV8 : Hid (VL w0 b l (some ⟨gl, ol, none⟩) lc na f i s ts (k + 1) nb' (min a.1 (a.2.met u), a.2) (wr.alloc (.cells #[.string (str t.name), .int .u32 t.coef] 49))) := by
            have := hV7.out.go (W2 := wr.alloc (.cells #[.string (str t.name), .int .u32 t.coef] 49)) (nb2 := nb') hbig hnd hSH.out hiH.out hfH.out hua hus (by rw [hstep.out]; exact hV7.out.fs) (by rw [hstep.out]; exact hV7.out.nb)
            rw [hstep.out] at this
            exact this
          have hmz : ((a.2.met u : Int) == 0) = false := by simp; exact hm
          generalize a.2.met u = mu at *
          clear hb7 hat htk hV hV7 hstep hua hus
          go_wp2_with fail
          all_goals first | omega | skip
          all_goals go_roundw
          all_goals first
            | exact ⟨k + 1, nb', _, by omega, Nat.le_trans (Nat.min_le_left _ _) hle, by go_num, by first | rfl | (congr 1; omega) | (simp; omega), hV8⟩
            | (simp [intOf]; omega)
    · obtain rfl : k = tn := by omega
      have hres : Hid (Ta.visitF (adjF l) (selfF l) (f + 1) i s = Ta.endF (selfF l) (cn + 1) on a) := by
        show _ = _
        rw [Ta.visitF, hadj.out, ← hV.out.is, ← hcnH.out, ← honH.out]
      by_cases hown : a.1 = cn + 1
      · obtain ⟨tail, L⟩ := hV.out.lp
        have hopl : a.2.opn.length = on + 1 + tail.length := by rw [L.opn, honH.out]; simp; omega
        have hszo := hV.out.sz
        unfold Sz at hszo
        have hcn2 := L.inv.cnt
        have h42 : Hid (Calls Try.prog 42 #[.int .i64 (on : Int), bp b 0, bp b 1, bp b 2, bp b 3, bp b 4] wr fun e w' => e = .returned (.tuple #[]) ∧ ∃ nb', nb' ≤ (Ta.finishF (selfF l) on a.2).order.length ∧ FS w0 b l (some ⟨gl, ol, none⟩) lc na nb' (Ta.finishF (selfF l) on a.2) w') := by
          have hnb9 := hV.out.nb
          refine (finish_is hV.out.fs on (by omega) (fun v hv => L.inv.low v (by have := (L.inv.num v hv).1; omega)) (by omega) (by omega) (by omega) (by omega) hheld2.out).mono ?_
          rintro e w' ⟨h1, nb9, h2, h3⟩
          refine ⟨h1, nb9, ?_, h3⟩
          show nb9 ≤ (a.2.order ++ a.2.opn.drop on).length
          rw [List.length_append, List.length_drop]
          omega
        have x7 := (Joins.cell_of_block hV.out.fs.fb 0).trans rfl
        have hvv : Hid (∀ nb9 W9, nb9 ≤ (Ta.finishF (selfF l) on a.2).order.length → FS w0 b l (some ⟨gl, ol, none⟩) lc na nb9 (Ta.finishF (selfF l) on a.2) W9 → ViO w0 b l (some ⟨gl, ol, none⟩) lc na (Ta.visitF (adjF l) (selfF l) (f + 1) i s) (.returned (.int .i64 ((cn : Int) + 1))) W9) := fun nb9 W9 h1 h2 => by
          rw [hres.out]
          unfold Ta.endF ViO
          rw [if_pos hown]
          exact ⟨by show Ending.returned (Value.int .i64 _) = Ending.returned (Value.int .i64 ((cn + 1 : Nat) : Int)); congr 2, nb9, h1, h2⟩
        have ha1 : (a.1 : Int) = (cn : Int) + 1 := by omega
        generalize Ta.finishF (selfF l) on a.2 = RF at *
        rw [hown] at *
        clear hV L hres hopl hszo hcn2 hadj hmem htm htc
        go_wp2_with (go_at_call 42; (with_reducible refine (h42.out).mono ?_); rintro e w9 ⟨rfl, nb9, h1, h2⟩; have hv9 := Hid.intro (hvv.out nb9 w9 h1 h2); clear h1 h2)
        all_goals first | omega | skip
        go_ret
        exact hv9.out
      · have hvv : Hid (ViO w0 b l (some ⟨gl, ol, none⟩) lc na (Ta.visitF (adjF l) (selfF l) (f + 1) i s) (.returned (.int .i64 (a.1 : Int))) wr) := by
          show ViO _ _ _ _ _ _ _ _ _
          rw [hres.out]
          unfold Ta.endF ViO
          rw [if_neg hown]
          exact ⟨rfl, nb', hV.out.nb, hV.out.fs⟩
        have hne : ((a.1 : Int) == (cn : Int) + 1) = false := by simp; omega
        clear hV hres hadj hmem htm htc
        go_wp2_with fail
        all_goals first | omega | skip
        go_ret
        exact hvv.out
theorem visit_mem (hl : l.length ≤ 1000) (hnd : (l.map (·.1)).Nodup) (hheld : ∀ q ∈ l, q.1.length ≤ 140737488355328 ∧ q.2.terms.length ≤ 4400000 ∧ ∀ t ∈ q.2.terms, t.name.length ≤ 140737488355328) : ∀ (f : Nat) (i : Nat) (s : Ta.St) (nb : Nat) (W : World), FS w0 b l la lc na nb s W → nb ≤ s.order.length → Sz s → Ta.Inv (adjF l) l.length s → s.met i = 0 → i < l.length → (∀ v ∈ s.opn, Ta.Rch (adjF l) v i) → Ta.left l.length s.met ≤ f → Calls Try.prog 44 (visA b i) W fun e w' => ViO w0 b l la lc na (Ta.visitF (adjF l) (selfF l) f i s) e w'
  | 0, i, s, nb, W, h, hnb, hsz, hS, h0, hin, hi, hf => by
    have := Ta.left_lt (n := l.length) (m := s.met) (m' := Ta.upd s.met i 1) (fun v hv => by unfold Ta.upd; split <;> omega) hin h0 (by unfold Ta.upd; rw [if_pos rfl]; decide)
    omega
  | f + 1, i, s, nb, W, h, hnb, hsz, hS, h0, hin, hi, hf => visit_step hl hnd hheld f (visit_mem hl hnd hheld f) i s nb W h hnb hsz hS h0 hin hi hf
end
end Go.Proofs.Ytebbbefknfldoaa
namespace Go.Proofs.Ytebbbefknfldoaa
open Go.ChangeShapes Go.WideShapes Go.ChangeAt Go.RowKit Go.WideMaps Go.Maps
set_option linter.unusedVariables false
set_option linter.unusedSimpArgs false
set_option maxRecDepth 100000
theorem run_makeMap_hint {P : Program} {t k e : TypeId} (ht : P.underlying t = some (.map k e)) (z : Int) (w : World) : (Instr.makeMap t (some (.int .i64 z))).run P w = .ok (.map (some w.heap.size)) (w.alloc (.map #[] 0)) := by
  simp [Instr.makeMap, run_underlying ht, asInt, asIntOf]
theorem IntIs.made (w : World) : IntIs (w.alloc (.map #[] 0)) w.heap.size 0 (fun _ => none) := by
  refine ⟨_, World.ownsMap_made w Try.prog 9 intE, ?_, fun s => ⟨rfl, fun z hz => by cases hz⟩⟩
  exact (World.ownsMap_made w Try.prog 9 intE).isMap
structure WA (w : World) (l : List Eqv) (la : Option Addr) (lc i : Nat) (wr : World) : Prop where
  bel : Below w.heap.size w wr
  lb : wr.heap[w.heap.size]? = some (.cells #[.slice la l.length lc] 22 (0, 0))
  ab : wr.heap[w.heap.size + 2]? = some (.cells #[.map (some (w.heap.size + 1))] 66 (0, 0))
  aa : IntIs wr (w.heap.size + 1) i (backF l (List.range i))
theorem WA.below {w : World} {l : List Eqv} {la : Option Addr} {lc i : Nat} {wr w' : World} (h : WA w l la lc i wr) (hb : Below wr.heap.size wr w') : WA w l la lc i w' := by
  have hg : wr.grownBy w' none := ⟨hb.os, hb.tape, hb.output, hb.size, fun k hk _ => hb.block k hk⟩
  have kp : ∀ {i : Nat} {ob : Obj}, wr.heap[i]? = some ob → w'.heap[i]? = some ob := fun hh => (hb.block _ (wblk_lt hh)).trans hh
  exact ⟨h.bel.trans (hb.mono h.bel.size), kp h.lb, kp h.ab, h.aa.kept hg (by simp)⟩
theorem WA.put {w : World} {l : List Eqv} {la : Option Addr} {lc i : Nat} {wr w' : World} (h : WA w l la lc i wr) (hk : IntIs w' (w.heap.size + 1) (i + 1) (fun x => if x = nmOf l i then some (i : Int) else backF l (List.range i) x)) (k1 : wr.grownBy w' (some (w.heap.size + 1))) : WA w l la lc (i + 1) w' := by
  have kp : ∀ {j : Nat} {ob : Obj}, j ≠ w.heap.size + 1 → wr.heap[j]? = some ob → w'.heap[j]? = some ob := fun hj hh => (k1.block _ (wblk_lt hh) (fun e => hj (Option.some.inj e))).trans hh
  refine ⟨h.bel.grown k1 h.bel.size (fun g e => by cases e; omega), kp (by omega) h.lb, kp (by omega) h.ab, ?_⟩
  rw [List.range_succ, backF_snoc]
  exact hk
def alls (w : World) (obs : List Obj) : World := obs.foldl World.alloc w
theorem alls_below : ∀ (obs : List Obj) (w : World), Below w.heap.size w (alls w obs) ∧ (alls w obs).heap.size = w.heap.size + obs.length
  | [], w => ⟨Below.refl _ _, rfl⟩
  | o :: obs, w => by
    obtain ⟨h1, h2⟩ := alls_below obs (w.alloc o)
    have hb := below_alloc w o
    have hs : (w.alloc o).heap.size = w.heap.size + 1 := by simp
    exact ⟨hb.trans (h1.mono hb.size), by show (alls (w.alloc o) obs).heap.size = _; rw [h2, hs, List.length_cons]; omega⟩
theorem alls_heap : ∀ (obs : List Obj) (w : World) (k : Nat) (o : Obj), obs[k]? = some o → (alls w obs).heap[w.heap.size + k]? = some o
  | [], w, k, o, h => by cases h
  | x :: obs, w, 0, o, h => by
    obtain ⟨h1, h2⟩ := alls_below obs (w.alloc x)
    have hs : (w.alloc x).heap.size = w.heap.size + 1 := by simp
    have h3 : x = o := by simpa using h
    subst h3
    exact (h1.block _ (by omega)).trans (heap_alloc_new w x)
  | x :: obs, w, k + 1, o, h => by
    have hs : (w.alloc x).heap.size = w.heap.size + 1 := by simp
    have := alls_heap obs (w.alloc x) k o (by simpa using h)
    rw [hs] at this
    rw [show w.heap.size + (k + 1) = w.heap.size + 1 + k by omega]
    exact this
def wkB (N M : Nat) : Nat → Nat
  | 0 => M + 7 | 1 => M + 5 | 2 => N | 3 => M + 3 | 4 => M + 2 | 5 => M + 6 | 6 => N + 2 | 7 => M + 8 | 8 => M + 9 | 9 => M + 4 | 10 => M + 1 | _ => N + 1
def wkO (N M n : Nat) : List Obj := [.cells (madeCells #[.int .i64 0] n) 3, .map #[] 0, .cells #[.slice (some ⟨M, 0, none⟩) 0 n] 65, .cells #[.map (some (M + 1))] 66, .cells (madeCells #[.int .i64 0] n) 3, .cells #[.slice (some ⟨M + 4, 0, none⟩) n n] 65, .cells #[.int .i64 0] 3, .cells #[.slice none 0 0] 65, .cells #[finV (wkB N M)] 84, .cells #[visV (wkB N M)] 85]
theorem made_zero (n : Nat) : madeCells #[.int .i64 0] n = metR n (fun _ => 0) := by
  unfold madeCells metR
  apply Array.ext_getElem?
  intro i
  by_cases hi : i < n
  · simp [hi, Nat.mod_one]
  · simp [hi]
theorem fs_start {w wr : World} {l : List Eqv} {la : Option Addr} {lc : Nat} (h : WA w l la lc l.length wr) (hE : EqIn w la l) (hl : l.length ≤ 1000) : FS w (wkB w.heap.size wr.heap.size) l la lc l.length 0 Ta.zeroS (alls wr (wkO w.heap.size wr.heap.size l.length)) := by
  have hA := h
  obtain ⟨hb, hs⟩ := alls_below (wkO w.heap.size wr.heap.size l.length) wr
  have hn := fun k o => alls_heap (wkO w.heap.size wr.heap.size l.length) wr k o
  have h' := h.below hb
  have hlt := wblk_lt h.lb
  have hlt2 := wblk_lt h.ab
  have hlt3 := h.aa.lt
  generalize hW : alls wr (wkO w.heap.size wr.heap.size l.length) = W at *
  have hs10 : W.heap.size = wr.heap.size + 10 := by rw [hs]; rfl
  refine ⟨h'.bel, hE, ⟨?_, ?_, ?_⟩, ⟨none, 0, hn 7 _ rfl, World.ownsRow_nil _ _ _ _, (fun g hg => by cases hg), some ⟨wr.heap.size, 0, none⟩, l.length, hn 2 _ rfl, ?_, ?_⟩, hn 5 _ rfl, ?_, h'.lb, hn 3 _ rfl, ?_, hn 6 _ rfl, h'.ab, h'.aa, hn 8 _ rfl, hn 9 _ rfl⟩
  · intro i j hi hj
    have hi2 : i = 0 ∨ i = 1 ∨ i = 2 ∨ i = 3 ∨ i = 4 ∨ i = 5 ∨ i = 6 ∨ i = 7 ∨ i = 8 ∨ i = 9 ∨ i = 10 ∨ i = 11 := by omega
    have hj2 : j = 0 ∨ j = 1 ∨ j = 2 ∨ j = 3 ∨ j = 4 ∨ j = 5 ∨ j = 6 ∨ j = 7 ∨ j = 8 ∨ j = 9 ∨ j = 10 ∨ j = 11 := by omega
    rcases hi2 with rfl | rfl | rfl | rfl | rfl | rfl | rfl | rfl | rfl | rfl | rfl | rfl <;> rcases hj2 with rfl | rfl | rfl | rfl | rfl | rfl | rfl | rfl | rfl | rfl | rfl | rfl <;> intro e <;> first | rfl | (exfalso; simp only [wkB] at e; omega)
  · intro i hi
    have hi2 : i = 0 ∨ i = 1 ∨ i = 2 ∨ i = 3 ∨ i = 4 ∨ i = 5 ∨ i = 6 ∨ i = 7 ∨ i = 8 ∨ i = 9 ∨ i = 10 ∨ i = 11 := by omega
    rcases hi2 with rfl | rfl | rfl | rfl | rfl | rfl | rfl | rfl | rfl | rfl | rfl | rfl <;> simp only [wkB] <;> omega
  · intro i hi
    have hi2 : i = 0 ∨ i = 1 ∨ i = 2 ∨ i = 3 ∨ i = 4 ∨ i = 5 ∨ i = 6 ∨ i = 7 ∨ i = 8 ∨ i = 9 ∨ i = 10 ∨ i = 11 := by omega
    rcases hi2 with rfl | rfl | rfl | rfl | rfl | rfl | rfl | rfl | rfl | rfl | rfl | rfl <;> simp only [wkB] <;> omega
  · exact ⟨rfl, .inr ⟨wr.heap.size, l.length, madeCells #[.int .i64 0] l.length, rfl, by omega, hn 0 _ rfl, Nat.zero_le _, by unfold maxLen; omega, by rw [size_madeCells]; omega, by simp [rowN, Ta.zeroS]⟩⟩
  · intro g hg
    have hg2 : wr.heap.size = g := by simpa [Value.ownBlock] using hg
    subst hg2
    refine ⟨fun i hi => ?_, fun e => by cases e⟩
    have hi2 : i = 0 ∨ i = 1 ∨ i = 2 ∨ i = 3 ∨ i = 4 ∨ i = 5 ∨ i = 6 ∨ i = 7 ∨ i = 8 ∨ i = 9 ∨ i = 10 ∨ i = 11 := by omega
    rcases hi2 with rfl | rfl | rfl | rfl | rfl | rfl | rfl | rfl | rfl | rfl | rfl | rfl <;> simp only [wkB] <;> omega
  · have := hn 4 _ rfl
    rw [made_zero] at this
    exact this
  · have h1 := IntIs.made (wr.alloc (.cells (madeCells #[.int .i64 0] l.length) 3))
    obtain ⟨hb2, _⟩ := alls_below ((wkO w.heap.size wr.heap.size l.length).drop 2) ((wr.alloc (.cells (madeCells #[.int .i64 0] l.length) 3)).alloc (.map #[] 0))
    have e : alls ((wr.alloc (.cells (madeCells #[.int .i64 0] l.length) 3)).alloc (.map #[] 0)) ((wkO w.heap.size wr.heap.size l.length).drop 2) = W := hW
    rw [e] at hb2
    have hs1 : (wr.alloc (.cells (madeCells #[.int .i64 0] l.length) 3)).heap.size = wr.heap.size + 1 := by simp
    rw [hs1] at h1
    exact h1.kept (row := none) ⟨hb2.os, hb2.tape, hb2.output, hb2.size, fun k hk _ => hb2.block k hk⟩ (by simp)
end Go.Proofs.Ytebbbefknfldoaa
