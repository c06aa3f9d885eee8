/- The walk of DecodeRow. -/
import Derived.Test.YthboapfbgdcdoaaDoorRowM
import Derived.Test.YthboapfbgdcdoaaDoorKnown
import Derived.Test.YthboapfbgdcdoaaDoorRndQ
namespace Go.Proofs.YthboapfbgdcdoaaDoor
open Go.ChangeShapes Go.WideShapes Go.ChangeAt Go.RowKit Go.Shelf
set_option linter.unusedVariables false
set_option maxRecDepth 100000
attribute [local go_sem] Oper.semAt_some

theorem CI.drewN {W : World} {b k : Nat} {v : Value} (h : CI W b k v) (n : Nat) : CI (W.drewN n) b k v := ⟨h.cell, h.froz⟩
theorem keeps_drewN (B : Nat) (W : World) (n : Nat) : KeepsFrom B W (W.drewN n) := ⟨Nat.le_refl _, fun k o _ h _ => h⟩
theorem inst_ne_run (x y : Ins) (h : x ≠ y) (W : World) : Sem.run Tryd.prog (binOp BinOp.neq 26 (instV x.o x.a x.b x.n x.f) (instV y.o y.a y.b y.n y.f)) W = .ok (.bool true) W := by
  go_simp
  obtain ⟨a, b, c, d, e⟩ := x
  obtain ⟨a', b', c', d', e'⟩ := y
  simp only
  intro h1 h2 h3 h4 h5
  subst h1 h2 h3 h4 h5
  exact h rfl

set_option maxHeartbeats 4000000 in
theorem row_law (a : Option Addr) (m c : Nat) (xs : List Ins) (hm : m = xs.length) (w : World) (hT : Tab w) (hl : ILies w a xs) (hlc : xs.length ≤ c) (hcm : c ≤ maxLen) :
    Calls Tryd.prog 7 #[.slice a m c] w fun e w' => e = .returned (.bool true) ∧ Below w.heap.size w w' := by
  have hAll := Hid.intro (fun (W : World) (M : Nat) (zs : List Ins) (hM : M = zs.length) (hW : Tab W) (hL : ILies W a zs) (hk : M ≤ 1000) => all_any a c zs M hM W hW hL (by omega))
  have hTH := Hid.intro hT
  have hlH := Hid.intro hl
  have hmH := Hid.intro hm
  have hmc : m ≤ c := by omega
  have hmi : (m : Int) ≤ 9223372036854775807 := by unfold maxLen at hcm; omega
  have hcH := Hid.intro hcm
  clear hT hl hm hlc hcm
  refine (callsIn_wide (n := 8)).1 ?_
  refine callsIn_of_wp_marks Tryd.func7 rfl trivial ?_ rfl
  simp only [Tryd.ntmps7, List.size_toArray, List.length_cons, List.length_nil, Nat.reduceAdd, Nat.reduceSub, Array.replicate_succ, Array.replicate_zero, List.push_toArray, List.append_toArray, List.nil_append, List.cons_append]
  gi_upto_if 12 with fail
  gi_cut [] from 10 (fun wx => (wx.heap[w.heap.size]? = some (.cells #[.slice a (xs.take 100).length c] 46) ∧ wx.heap[w.heap.size + 1]? = some (.cells #[.bool false] 4)) ∧ Below w.heap.size w wx)
  case first =>
    by_cases hlt : (100 : Int) < (m : Int)
    · have hd : decide ((100 : Int) < (m : Int)) = true := decide_eq_true hlt
      have hlen : (xs.take 100).length = 100 := by have := hmH.out; simp; omega
      have e1 : 100 ≤ c := by omega
      have e2 : (100 : Int) ≤ (c : Int) := by omega
      obtain ⟨g, off, rfl⟩ : ∃ g off, a = some ⟨g, off, none⟩ := by
        rcases hlH.out.2 with h | ⟨g, off, ha, _⟩
        · have := hmH.out; rw [h] at this; simp at this; omega
        · exact ⟨g, off, ha⟩
      gi_wp2
      gi_meet
      rw [hlen]
      exact ⟨⟨alloc_heapN (heap_alloc_new w _) _, by have := heap_alloc_new (w.alloc (.cells #[.slice (some ⟨g, off, none⟩) 100 c] 46)) (.cells #[.bool false] 4); rwa [World.size_alloc] at this⟩, chain2 (below_alloc w _) (below_alloc _ _)⟩
    · have hd : decide ((100 : Int) < (m : Int)) = false := decide_eq_false hlt
      have hlen : (xs.take 100).length = m := by have := hmH.out; simp; omega
      gi_wp2
      gi_meet
      rw [hlen]
      exact ⟨⟨alloc_heapN (heap_alloc_new w _) _, by have := heap_alloc_new (w.alloc (.cells #[.slice a m c] 46)) (.cells #[.bool false] 4); rwa [World.size_alloc] at this⟩, chain2 (below_alloc w _) (below_alloc _ _)⟩
  case rest =>
    obtain ⟨⟨hg1, hg2⟩, hbc⟩ := hcut
    have hTc := Hid.intro (hTH.out.below hbc hTH.out.size)
    have hl100 : (xs.take 100).length ≤ 100 := by simp; omega
    have hL := (hlH.out.take 100).below hbc
    have hlw := hlH.out.take 100
    have hmc2 : (xs.take 100).length ≤ c := by have := hmH.out; simp; omega
    generalize xs.take 100 = zs at *
    obtain ⟨M, hM⟩ : ∃ M, M = zs.length := ⟨_, rfl⟩
    rw [← hM] at hg1 hl100
    have hgH := Hid.intro hg1
    have hg2H := Hid.intro hg2
    have hbcH := Hid.intro hbc
    have hLH := Hid.intro hL
    have hMH := Hid.intro hM
    have q1 := (cell_block hg1 0).trans rfl
    have hA1 := Hid.intro (hAll.out wc M zs hM hTc.out hL (by omega))
    clear hg1 hg2 hbc hL hM hmi
    gi_upto_if 22 with (refine ⟨trivial, ?_⟩; gi_at_call 16; refine (callsIn_wide.2 hA1.out).mono ?_; rintro e w1 ⟨ab, mb, cb, rfl, hsb, hb1⟩; replace hsb := Hid.intro hsb; replace hb1 := Hid.intro hb1)
    obtain ⟨ys, hys⟩ : ∃ ys, (if allE zs = 0 then zs else zs.take (badAt zs)) = ys := ⟨_, rfl⟩
    have hyok : Hid (∀ y ∈ ys, y.chk = 0 ∧ y.ok) := by
      intro y hy
      rw [← hys] at hy
      split at hy
      · rename_i h0
        exact ⟨all_ok h0 y hy, hLH.out.1 y hy⟩
      · exact ⟨take_ok y hy, hLH.out.1 y (List.mem_of_mem_take hy)⟩
    have hlz : ILies w a zs := hlw
    have hyl : Hid (ILies w a ys ∧ ys.length ≤ 100 ∧ ys.length ≤ c) := by
      rw [← hys]
      have := hMH.out
      split
      · exact ⟨hlz, by omega, by omega⟩
      · exact ⟨hlz.take _, by simp; omega, by simp; omega⟩
    obtain ⟨NB, hNB⟩ : ∃ NB : Nat, allN zs = (NB : Int) ∧ (allE zs ≠ 0 → NB = badAt zs) := by
      unfold allN
      by_cases hE : allE zs = 0
      · exact ⟨0, by rw [if_pos hE]; rfl, fun h => absurd hE h⟩
      · exact ⟨badAt zs, by rw [if_neg hE], fun _ => rfl⟩
    rw [hNB.1]
    gi_cut [3] from 10 (fun v3 wx => ∃ ab mb cb, v3 = .slice ab mb cb ∧ SlB wx w.heap.size ab mb cb (encAll ys) ∧ wx.heap[w.heap.size]? = some (.cells #[.slice a ys.length c] 46) ∧ wx.heap[w.heap.size + 1]? = some (.cells #[.bool false] 4) ∧ Below w.heap.size w wx)
    case first =>
      have hs1 : w.heap.size + 1 < wc.heap.size := (Array.getElem?_eq_some_iff.1 hg2H.out).1
      have k1 := (hb1.out.block w.heap.size (by omega)).trans hgH.out
      have k2 := (hb1.out.block (w.heap.size + 1) hs1).trans hg2H.out
      have hbw1 := Hid.intro (hbcH.out.trans (hb1.out.mono hbcH.out.size))
      by_cases hE : allE zs = 0
      · rw [if_pos hE] at hys
        subst hys
        have hLz : allL zs = encAll zs := by rw [allL, if_pos hE]
        rw [hLz] at hsb
        have e1 : (allE zs != 0) = false := by simp [hE]
        have e2 : (allE zs == 0) = true := by simp [hE]
        clear hE hLz
        have hk1 := Hid.intro k1
        have hk2 := Hid.intro k2
        clear k1 k2
        gi_wp2
        gi_meet
        exact ⟨ab, mb, cb, rfl, (hsb.out.mono hbcH.out.size), by rw [← hMH.out]; exact hk1.out, hk2.out, hbw1.out⟩
      · rw [if_neg hE] at hys
        have hnb := hNB.2 hE
        have hblt : badAt zs ≤ zs.length := badAt_le zs
        have hyn : ys.length = NB := by rw [← hys, hnb]; simp; omega
        have hNc : NB ≤ c := by have := hMH.out; omega
        have hNci : (NB : Int) ≤ (c : Int) := by omega
        obtain ⟨g, off, rfl⟩ : ∃ g off, a = some ⟨g, off, none⟩ := by
          rcases hlz.2 with h | ⟨g, off, ha, _⟩
          · rw [h] at hE; exact absurd rfl hE
          · exact ⟨g, off, ha⟩
        have e1 : (allE zs != 0) = true := by simp [hE]
        have e2 : (allE zs == 0) = false := by simp [hE]
        have hC1 := Hid.intro (ci_of (k := 0) k1 rfl)
        obtain ⟨x1, x2⟩ := hC1.out
        have hsame := Hid.intro (heap_setCell_same w1 w.heap.size 0 _ 46 (.slice (some ⟨g, off, none⟩) NB c) k1)
        have hoth := Hid.intro ((heap_setCell_other w1 ⟨w.heap.size, 0, none⟩ (w.heap.size + 1) (.slice (some ⟨g, off, none⟩) NB c) (by simp)).trans k2)
        have hbw2 := Hid.intro (hbw1.out.setCell (p := ⟨w.heap.size, 0, none⟩) (Nat.le_refl _) (.slice (some ⟨g, off, none⟩) NB c))
        have hA2 := Hid.intro (hAll.out (w1.setCell ⟨w.heap.size, 0, none⟩ (.slice (some ⟨g, off, none⟩) NB c)) NB ys hyn.symm (hTH.out.below hbw2.out hTH.out.size) (hyl.out.1.below hbw2.out) (by have := hyl.out; omega))
        have hE2 : allE ys = 0 := allE_of_ok fun y hy => (hyok.out y hy).1
        have hL2 : allL ys = encAll ys := by rw [allL, if_pos hE2]
        rw [hL2] at hA2
        have hyn2 := Hid.intro hyn
        clear hE hnb hblt hyn hE2 hL2 k1 k2 hys hNB hlz hlw
        gi_wp2_with (refine ⟨trivial, ?_⟩; gi_at_call 16; refine (callsIn_wide.2 hA2.out).mono ?_; rintro e w3 ⟨ab2, mb2, cb2, rfl, hsb3, hb3⟩; replace hsb3 := Hid.intro hsb3; replace hb3 := Hid.intro hb3)
        gi_meet
        have hsz := (Array.getElem?_eq_some_iff.1 hoth.out).1
        refine ⟨ab2, mb2, cb2, rfl, hsb3.out.mono hbw2.out.size, ?_, ?_, chain2 hbw2.out hb3.out⟩
        · rw [hyn2.out]
          exact (hb3.out.block w.heap.size (by omega)).trans (by simpa using hsame.out)
        · exact (hb3.out.block (w.heap.size + 1) hsz).trans hoth.out
    case rest =>
      obtain ⟨ab, mb, cb, rfl, hsb2, hg1, hg2, hbw⟩ := hcut
      have hlen : (encAll ys).length ≤ 700 := by have := encAll_len ys; have := hyl.out; omega
      have hmb := hsb2.len
      have hrest : restL (encAll ys) 0 = encAll ys := by
        unfold restL
        by_cases h : 0 < (encAll ys).length
        · rw [if_pos (by omega)]; simp
        · rw [if_neg (by omega)]; exact (List.length_eq_zero_iff.1 (by omega)).symm
      have hDA := Hid.intro (dall_any ab mb cb (encAll ys) 0 wc hmb hsb2.lies hsb2.cap (by omega) (by omega))
      rw [hrest] at hDA
      have hTw := Hid.intro (hTH.out.below hbw hTH.out.size)
      have hbwH := Hid.intro hbw
      have hg1H := Hid.intro hg1
      have hg2H' := Hid.intro hg2
      have hsz1 : w.heap.size + 1 < wc.heap.size := (Array.getElem?_eq_some_iff.1 hg2).1
      have hlenH := Hid.intro hlen
      have hmbH := Hid.intro hmb
      have hse := seq_some
      have hyl' := hyl
      have hyok' := hyok
      clear hg1 hg2 hbw hsb2 hlen hmb hrest hAll hlz hlw hNB hys hA1 hsb hb1 hMH hLH hbcH hg2H hgH q1 hTc
      gi_wp2_with (refine ⟨trivial, ?_⟩; gi_at_call 9; refine (callsIn_wide.2 hDA.out).mono ?_; rintro e w2 ⟨gr, ga, rfl, ⟨aR, mR, cR, hSq⟩, hgr, hga, hb2⟩; replace hSq := Hid.intro hSq; replace hb2 := Hid.intro hb2)
      obtain ⟨Wl, hWl⟩ : ∃ Wl, ((w2.alloc (.cells #[.int .i64 0] 3)).alloc (.cells #[.int .i64 0] 3)) = Wl := ⟨_, rfl⟩
      rw [hWl]
      have hsl : Wl.heap.size = w2.heap.size + 2 := by rw [← hWl]; simp
      have hbl : Below w2.heap.size w2 Wl := by rw [← hWl]; exact chain2 (below_alloc w2 _) (below_alloc _ _)
      have cE : CI Wl (w2.heap.size + 1) 0 (.int .i64 0) := by
        rw [← hWl]
        have := heap_alloc_new (w2.alloc (.cells #[.int .i64 0] 3)) (.cells #[.int .i64 0] 3)
        rw [World.size_alloc] at this
        exact ci_of this rfl
      have cK : CI Wl w2.heap.size 0 (.int .i64 0) := by
        rw [← hWl]
        exact ci_of (alloc_heapN (heap_alloc_new w2 _) _) rfl
      have hs2 := hb2.out.size
      have c1 : CI Wl w.heap.size 0 (.slice a ys.length c) := ((ci_of hg1H.out rfl).below hb2.out (by omega)).below hbl (by omega)
      have c2 : CI Wl (w.heap.size + 1) 0 (.bool false) := ((ci_of hg2H'.out rfl).below hb2.out (by omega)).below hbl (by omega)
      have hBl : Below w.heap.size w Wl := chain2 (chain2 hbwH.out hb2.out) hbl
      have hSl : SeqAt Wl wc.heap.size gr ga 0 (encAll ys) aR mR cR := ⟨(hbl.cell (p := ⟨gr, 0, none⟩) hgr).trans hSq.out.hr, (hbl.cell (p := ⟨ga, 0, none⟩) hga).trans hSq.out.ha, hSq.out.hs.below hbl⟩
      have hstep := all_stops 7 (by decide) w2.heap.size wc.heap.size gr ga 0 (encAll ys) aR mR cR Wl (hTH.out.below hBl hTH.out.size) hSl hgr hga (fun b off h => by
        have hl := hSq.out.hs.got
        exact (World.ownsRow.lt hl b (by rw [h]; rfl)).2) (by have := hTw.out.size; omega) (by omega) (by rw [hSl.hs.len]; exact Nat.le_trans hlenH.out (by omega)) (fun _ => by omega)
      rw [steps_row ys hyok.out] at hstep
      clear hWl
      refine range_boxed 9 (by decide) rfl hstep (by omega) (Below.refl _ _) rfl
        (fun pre W => (CI W w2.heap.size 0 (.int .i64 (pre.length : Int)) ∧ CI W (w2.heap.size + 1) 0 (.int .i64 (endF 0 pre)) ∧ CI W w.heap.size 0 (.slice a ys.length c) ∧ CI W (w.heap.size + 1) 0 (.bool false)) ∧ Below w.heap.size w W ∧ Wl.heap.size ≤ W.heap.size)
        (fun c' pre W => c' = .ret ∧ ¬ (pre <+: rowS ys 0))
        (fun s A B row hs hg hr => ⟨⟨hs.1.1.kept hg (fun r e => (hr r e).2), hs.1.2.1.kept hg (fun r e => (hr r e).2), hs.1.2.2.1.kept hg (fun r e => (hr r e).2), hs.1.2.2.2.kept hg (fun r e => (hr r e).2)⟩, hs.2.1.grown hg hs.2.1.size (fun k e => Nat.le_trans hBl.size (hr k e).1), Nat.le_trans hs.2.2 hg.size⟩)
        (fun c' s A B row hs hg hr => hs)
        ⟨⟨cK, cE, c1, c2⟩, hBl, Nat.le_refl _⟩ ?assign (fun pre W h => h.2.2) ?body ?done ?stop
      case assign =>
        intro l pre x W K hi hsz hK
        gi_wp2
        refine (congrArg (fun t => K t _) ?_).mp (hK W.heap.size _ hsz (keeps_alloc _ _ _) ((Below.refl _ W).alloc (by omega) _) ⟨⟨hi.1.1.alloc _, hi.1.2.1.alloc _, hi.1.2.2.1.alloc _, hi.1.2.2.2.alloc _⟩, hi.2.1.alloc hi.2.1.size _, by have := hi.2.2; simp; omega⟩ (stepAt_new W x))
        simp [roundAct]
      case body =>
        rintro l pre x gx W hgx ⟨⟨hK, hE, h1, h2⟩, hB, hsz⟩ hst hlen
        rw [rowS_len] at hlen
        obtain ⟨y, hy⟩ : ∃ y, ys[pre.length]? = some y := ⟨_, List.getElem?_eq_getElem hlen⟩
        obtain ⟨g, off, rfl, hcell⟩ : ∃ g off, a = some ⟨g, off, none⟩ ∧ InsAt W g (off + pre.length * 5) y := by
          rcases (hyl.out.1.below hB).2 with h | ⟨g, off, ha, hc⟩
          · rw [h] at hy; simp at hy
          · exact ⟨g, off, ha, hc _ _ hy⟩
        have hgw : Hid (w.heap.size + 1 < w2.heap.size) := (show _ < _ by omega)
        have hKH := Hid.intro hK
        have hEH := Hid.intro hE
        have h1H := Hid.intro h1
        have h2H := Hid.intro h2
        have hBH := Hid.intro hB
        have hyH := Hid.intro hy
        have hszH := Hid.intro hsz
        obtain ⟨k1, k2⟩ := hK
        obtain ⟨e1, e2⟩ := hE
        obtain ⟨l1, l2⟩ := h1
        obtain ⟨r1, r2⟩ := h2
        obtain ⟨s0, s1, s2, s3, s4, s5, s6⟩ := hst.cells
        obtain ⟨y0, y1, y2, y3, y4⟩ := hcell
        have hpl : (pre.length : Int) < (ys.length : Int) := by omega
        have hpl2 : ¬ ((pre.length : Int) ≥ (ys.length : Int)) := by omega
        have hpd : decide ((ys.length : Int) ≤ (pre.length : Int)) = false := decide_eq_false (by omega)
        have hpn : decide (ys.length ≤ pre.length) = false := decide_eq_false (by omega)
        have hpn2 : ¬ (ys.length ≤ pre.length) := by omega
        have hp0 : (0 : Int) ≤ (pre.length : Int) := by omega
        have hy100 : (ys.length : Int) ≤ 100 := by have := hyl.out; omega
        obtain ⟨xat, xlen, xo, xa, xb, xn, xf⟩ := x
        obtain ⟨yo, ya, yb, yn, yf⟩ := y
        simp only at s0 s1 s2 s3 s4 s5 s6 y0 y1 y2 y3 y4
        clear hy hB hsz hst hlen
        simp only [roundAct, List.zip_toArray, List.zip_cons_cons, List.zip_nil_right, List.size_toArray, List.length_cons, List.length_nil, Nat.zero_add, List.foldl_toArray', List.foldl_cons, List.setIfInBounds_toArray, List.set_cons_succ, List.set_cons_zero, List.foldl_nil]
        by_cases hx : (⟨xo, xa, xb, xn, xf⟩ : Ins) = ⟨yo, ya, yb, yn, yf⟩
        · simp only [Ins.mk.injEq] at hx
          obtain ⟨rfl, rfl, rfl, rfl, rfl⟩ := hx
          by_cases hat : xat = endF 0 pre
          · subst hat
            gi_wp2
            refine region_quiet_round (by kernel_rfl) (by kernel_rfl) (by kernel_rfl) ?_
            repeat (gi_big_quiet_step (fail))
            refine wpQuietIn_nil ?_
            intro _ hw'
            obtain ⟨nq, hw''⟩ := hw'
            subst hw''
            gi_wp2
            have hgwo := hgw.out
            refine ⟨((keeps_drewN _ W nq).trans (keeps_set _ _ _ _)).trans (keeps_set _ _ _ _), ((below_drewN (Below.refl _ W) nq).setCell (p := ⟨w2.heap.size + 1, 0, none⟩) (by show w2.heap.size ≤ w2.heap.size + 1; omega) _).setCell (p := ⟨w2.heap.size, 0, none⟩) (Nat.le_refl _) _, ⟨⟨?_, ?_, ((h1H.out.drewN nq).other (by omega)).other (by omega), ((h2H.out.drewN nq).other (by omega)).other (by omega)⟩, ((below_drewN hBH.out nq).setCell (p := ⟨w2.heap.size + 1, 0, none⟩) (by show w.heap.size ≤ w2.heap.size + 1; omega) _).setCell (p := ⟨w2.heap.size, 0, none⟩) (by show w.heap.size ≤ w2.heap.size; omega) _, by have := hszH.out; simpa using this⟩⟩
            · have := ((hKH.out.drewN nq).other (b' := w2.heap.size + 1) (k' := 0) (v' := .int .i64 (wrap64 (endF 0 pre + xlen))) (by omega)).set (.int .i64 ((pre.length : Int) + 1))
              simpa using this
            · rw [endF_snoc]
              exact ((hEH.out.drewN nq).set _).other (by omega)
          · have hd : (xat == endF 0 pre) = false := by simpa using hat
            have hd2 : (xat != endF 0 pre) = true := by simpa using hat
            have hatH := Hid.intro hat
            clear hat
            gi_wp2
            refine region_quiet_round (by kernel_rfl) (by kernel_rfl) (by kernel_rfl) ?_
            repeat (gi_big_quiet_step (fail))
            refine wpQuietIn_nil ?_
            intro _ hw'
            obtain ⟨nq, hw''⟩ := hw'
            subst hw''
            gi_wp2
            refine ⟨(keeps_drewN _ W nq).trans (keeps_set _ _ _ _), rfl, fun h => hatH.out ?_⟩
            have := (rowS_at ys 0 pre _ (by omega) (by have := hlenH.out; omega) h).2
            exact this
        · have hxr := inst_ne_run _ _ hx
          have hxH := Hid.intro hx
          simp only at hxr
          clear hx
          gi_wp2
          refine region_quiet_round (by kernel_rfl) (by kernel_rfl) (by kernel_rfl) ?_
          repeat (gi_big_quiet_step (fail))
          refine wpQuietIn_nil ?_
          intro _ hw'
          obtain ⟨nq, hw''⟩ := hw'
          subst hw''
          gi_wp2
          refine ⟨(keeps_drewN _ W nq).trans (keeps_set _ _ _ _), rfl, fun h => hxH.out ?_⟩
          have := (rowS_at ys 0 pre _ (by omega) (by have := hlenH.out; omega) h).1
          rw [hyH.out] at this
          exact (Option.some.inj this).symm
      case done =>
        rintro D xs' W hD rfl ⟨⟨hK, hE, h1, h2⟩, hB, hsz⟩ hDf
        rw [rowS_len] at hK
        rw [rowS_end ys 0 (by omega) (by have := hlenH.out; omega), Int.zero_add, ← hmbH.out] at hE
        have hDl : D < W.heap.size := (Array.getElem?_eq_some_iff.1 hDf).1
        have hDr : w.heap.size + 1 < D := by omega
        obtain ⟨k1, k2⟩ := hK
        obtain ⟨e1, e2⟩ := hE
        obtain ⟨l1, l2⟩ := h1
        have h2H := Hid.intro h2
        have hBH := Hid.intro hB
        have hDH := Hid.intro hDf
        have hTW := Hid.intro (hTH.out.below hB hTH.out.size)
        clear h2 hB hDf
        gi_wp2_with (refine ⟨trivial, ?_⟩; gi_at_call 10; refine (callsIn_wide.2 (known_any _ hTW.out)).mono ?_; rintro e w6 ⟨rfl, hb6⟩; obtain ⟨r61, r62⟩ := h2H.out.below hb6 h2H.out.lt; replace hb6 := Hid.intro hb6)
        have hK6 : w6.heap[D]? = some (.deferred (some [])) := (hb6.out.block D hDl).trans hDH.out
        have hK' := (KeepsOthers.setCell w6 ⟨w.heap.size + 1, 0, none⟩ (.bool true)).same D _ hK6 rfl
        have hBf : Below w.heap.size w (w6.setCell ⟨w.heap.size + 1, 0, none⟩ (.bool true)) := (chain2 hBH.out hb6.out).setCell (p := ⟨w.heap.size + 1, 0, none⟩) (by show w.heap.size ≤ w.heap.size + 1; omega) _
        refine ⟨by simp, .inl ⟨_, _, rfl, run_takeDeferred hK', ?_⟩⟩
        have hc5 := cell_kept (World.cell?_setCell_same' w6 ⟨w.heap.size + 1, 0, none⟩ (.bool true) (by rw [r61]; rfl)) (grownBy_putObj' _ D (.deferred none)) (fun r e => by cases e; exact ⟨_, hK', rfl⟩)
        refine ⟨.bool true, ?_, rfl, hBf.trans (belowK_b (w := w) (Nat.le_refl _) _ D _ _ (by omega) hK' rfl rfl)⟩
        simp [results, Tryd.results7, go_sem, hc5]
      case stop =>
        rintro D c' pre W hD hpre ⟨rfl, hno⟩ hK
        exact absurd hpre hno
end Go.Proofs.YthboapfbgdcdoaaDoor
