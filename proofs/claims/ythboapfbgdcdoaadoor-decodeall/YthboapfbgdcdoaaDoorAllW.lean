/- The walk of DecodeAll. -/
import Derived.Test.YthboapfbgdcdoaaDoorWithin
import Derived.Test.YthboapfbgdcdoaaDoorKnown
import Derived.Test.YthboapfbgdcdoaaDoorRDecode
namespace Go.Proofs.YthboapfbgdcdoaaDoor
open Go.ChangeShapes Go.WideShapes Go.ChangeAt Go.RowKit Go.Shelf
set_option linter.unusedVariables false
set_option maxRecDepth 100000
attribute [local go_sem] Oper.semAt_some

theorem step_ne_run (x y : StA) (h : x ≠ y) (W : World) : Sem.run Tryd.prog (binOp BinOp.neq 34 (.agg #[.int .i64 x.1, .int .i64 x.2.1, .int .i64 x.2.2.o, .int .i64 x.2.2.a, .int .i64 x.2.2.b, .int .i32 x.2.2.n, .int .i64 x.2.2.f]) (.agg #[.int .i64 y.1, .int .i64 y.2.1, .int .i64 y.2.2.o, .int .i64 y.2.2.a, .int .i64 y.2.2.b, .int .i32 y.2.2.n, .int .i64 y.2.2.f])) W = .ok (.bool true) W := by
  go_simp
  obtain ⟨x1, x2, a, b, c, d, e⟩ := x
  obtain ⟨y1, y2, a', b', c', d', e'⟩ := y
  simp only
  intro h6 h7 h1 h2 h3 h4 h5
  subst h1 h2 h3 h4 h5 h6 h7
  exact h rfl

theorem Lies.take {w : World} {a : Option Addr} {zs : List Int} (h : Lies w a zs) (k : Nat) : Lies w a (zs.take k) := by
  refine ⟨areBytes_take _ h.1 _, ?_⟩
  rcases h.2 with rfl | ⟨b, off, ha, hc⟩
  · exact .inl (by simp)
  · refine .inr ⟨b, off, ha, fun i hi => ?_⟩
    rw [List.length_take] at hi
    rw [hc i (by omega)]
    simp [List.getElem?_take_of_lt (show i < k by omega)]

/-- what the loops leave as it is -/
structure LS (ws : Nat) (a : Option Addr) (M c q gT : Nat) (T : Int) (W : World) : Prop where
  c1 : CI W ws 0 (.slice a M c)
  c2 : CI W (ws + 1) 0 (.int .i64 (q : Int))
  c3 : CI W (ws + 2) 0 (.bool false)
  cT : CI W gT 0 (.int .i64 T)
section
variable {ws M c q gT : Nat} {a : Option Addr} {T : Int} {W W' : World}
theorem LS.kept {A B : World} {row : Option Nat} (h : LS ws a M c q gT T A) (hg : A.grownBy B row) (hr : ∀ r, row = some r → ∃ o : Obj, A.heap[r]? = some o ∧ o.isCells = false) : LS ws a M c q gT T B := ⟨h.c1.kept hg hr, h.c2.kept hg hr, h.c3.kept hg hr, h.cT.kept hg hr⟩
theorem LS.alloc (h : LS ws a M c q gT T W) (o : Obj) : LS ws a M c q gT T (W.alloc o) := ⟨h.c1.alloc o, h.c2.alloc o, h.c3.alloc o, h.cT.alloc o⟩
theorem LS.below (h : LS ws a M c q gT T W) (hb : Below W.heap.size W W') : LS ws a M c q gT T W' := ⟨h.c1.below hb h.c1.lt, h.c2.below hb h.c2.lt, h.c3.below hb h.c3.lt, h.cT.below hb h.cT.lt⟩
theorem LS.other (h : LS ws a M c q gT T W) {g : Nat} {v : Value} (h1 : ws + 2 < g) (h2 : gT ≠ g) : LS ws a M c q gT T (W.setCell ⟨g, 0, none⟩ v) := ⟨h.c1.other (by omega), h.c2.other (by omega), h.c3.other (by omega), h.cT.other h2⟩
end
theorem StepAt.bel {W W' : World} {g : Nat} {x : StA} (h : StepAt W g x) (hb : Below W.heap.size W W') : StepAt W' g x := (hb.block g h.lt).trans h
theorem CI.bel {W W' : World} {b k : Nat} {v : Value} (h : CI W b k v) (hb : Below W.heap.size W W') : CI W' b k v := h.below hb h.lt
theorem ownFrom_def {B D : Nat} {o : Obj} (hD : D < B) : OwnFrom (β := List StA) B (fun _ W => W.heap[D]? = some o) := fun s A B' row hs hg hr => (hg.block D (Array.getElem?_eq_some_iff.1 hs).1 (fun e => by have := (hr D e.symm).1; omega)).trans hs

theorem mark_set {W : World} {D : Nat} {p : Addr} {v : Value} {l : _} (h : W.heap[D]? = some (.deferred l)) : (W.setCell p v).heap[D]? = some (.deferred l) := (KeepsOthers.setCell W p v).same D _ h rfl

set_option maxHeartbeats 4000000 in
theorem all_law (a : Option Addr) (zs0 : List Int) (m c : Nat) (hm : m = zs0.length) (at' st : Int) (w : World) (hT : Tab w) (hl : Lies w a zs0) (hmc : m ≤ c) (hml : m ≤ 140737488351232) (ha : -9223372036854775808 ≤ at' ∧ at' ≤ 9223372036854775807) (hst : -9223372036854775808 ≤ st ∧ st ≤ 9223372036854775807) :
    Calls Tryd.prog 6 #[.slice a m c, .int .i64 at', .int .i64 st] w fun e w' => e = .returned (.bool true) ∧ Below w.heap.size w w' := by
  have hTH := Hid.intro hT
  have hlH := Hid.intro hl
  have hmH := Hid.intro hm
  obtain ⟨q, hq, hW⟩ := within_any st hst.1 hst.2
  have hWi := Hid.intro hW
  have hmi : (m : Int) ≤ 140737488351232 := by omega
  clear hT hl hm hW
  refine (callsIn_wide (n := 8)).1 ?_
  refine callsIn_of_wp_marks Tryd.func6 rfl trivial ?_ rfl
  simp only [Tryd.ntmps6, List.size_toArray, List.length_cons, List.length_nil, Nat.reduceAdd, Nat.reduceSub, Array.replicate_succ, Array.replicate_zero, List.push_toArray, List.append_toArray, List.nil_append, List.cons_append]
  gi_upto_if 21 with fail
  gi_cut [] from 19 (fun wx => wx.heap[w.heap.size]? = some (.cells #[.slice a (zs0.take 500).length c] 22) ∧ wx.heap[w.heap.size + 1]? = some (.cells #[.int .i64 st] 3) ∧ wx.heap[w.heap.size + 2]? = some (.cells #[.bool false] 4) ∧ Below w.heap.size w wx)
  case first =>
    have hnew : ∀ (X : World) (o : Obj) (g : Nat), X.heap.size = g → (X.alloc o).heap[g]? = some o := fun X o g h => h ▸ heap_alloc_new X o
    by_cases hlt : (500 : Int) < (m : Int)
    · have hd : decide ((500 : Int) < (m : Int)) = true := decide_eq_true hlt
      have hlen : (zs0.take 500).length = 500 := by have := hmH.out; simp; omega
      have e1 : 500 ≤ c := by omega
      have e2 : (500 : Int) ≤ (c : Int) := by omega
      obtain ⟨g, off, rfl⟩ : ∃ g off, a = some ⟨g, off, none⟩ := by
        rcases hlH.out.2 with h | ⟨g, off, ha, _⟩
        · have := hmH.out; rw [h] at this; simp at this; omega
        · exact ⟨g, off, ha⟩
      gi_wp2
      gi_meet
      rw [hlen]
      exact ⟨alloc_heapN (alloc_heapN (heap_alloc_new w _) _) _, alloc_heapN (hnew _ _ _ (by simp)) _, hnew _ _ _ (by simp), chain2 (chain2 (below_alloc w _) (below_alloc _ _)) (below_alloc _ _)⟩
    · have hd : decide ((500 : Int) < (m : Int)) = false := decide_eq_false hlt
      have hlen : (zs0.take 500).length = m := by have := hmH.out; simp; omega
      gi_wp2
      gi_meet
      rw [hlen]
      exact ⟨alloc_heapN (alloc_heapN (heap_alloc_new w _) _) _, alloc_heapN (hnew _ _ _ (by simp)) _, hnew _ _ _ (by simp), chain2 (chain2 (below_alloc w _) (below_alloc _ _)) (below_alloc _ _)⟩
  case rest =>
    obtain ⟨hg1, hg2, hg3, hbc⟩ := hcut
    have hl5 : (zs0.take 500).length ≤ 500 := by simp; omega
    have hlz := hlH.out.take 500
    have hmc2 : (zs0.take 500).length ≤ c := by have := hmH.out; simp; omega
    generalize zs0.take 500 = zs at *
    obtain ⟨M, hM⟩ : ∃ M, M = zs.length := ⟨_, rfl⟩
    rw [← hM] at hg1 hl5 hmc2
    have hMH := Hid.intro hM
    have hlzH := Hid.intro hlz
    have hbcH := Hid.intro hbc
    have hg1H := Hid.intro hg1
    have hg2H := Hid.intro hg2
    have hg3H := Hid.intro hg3
    have q1 := (cell_block hg1 0).trans rfl
    have hDA := Hid.intro (dall_lo a M c zs at' wc hM (hlz.below hbc) hmc2 (by omega) ha)
    have hse := seq_some
    have hsz3 : w.heap.size + 2 < wc.heap.size := (Array.getElem?_eq_some_iff.1 hg3).1
    clear hg1 hg2 hg3 hbc hlz hM hmi hml hlH hmH hmc
    gi_wp2_with (first
      | (refine ⟨trivial, ?_⟩; gi_at_call 9; refine (callsIn_wide.2 hDA.out).mono ?_; rintro e w2 ⟨gr, ga, rfl, ⟨aR, mR, cR, hSq⟩, hgr, hga, hb2, hlr, hla⟩; have hd1 := Hid.intro ((hb2.block _ (by omega)).trans hg1H.out); have hd2 := Hid.intro ((hb2.block _ (by omega)).trans hg2H.out); have hd3 := Hid.intro ((hb2.block _ hsz3).trans hg3H.out); have x1 := (cell_block hd2.out 0).trans rfl; have x2 := frozen_of_row w2 (w.heap.size + 1) 0 _ 3 hd2.out; replace hSq := Hid.intro hSq; replace hb2 := Hid.intro hb2)
      | (refine ⟨trivial, ?_⟩; gi_at_call 15; refine (callsIn_wide.2 (hWi.out _)).mono ?_; rintro e w4 ⟨rfl, rfl⟩))
    obtain ⟨WL, hWL⟩ : ∃ WL, ((w4.setCell ⟨w.heap.size + 1, 0, none⟩ (.int .i64 (q : Int))).alloc (.cells #[.int .i64 0] 3)) = WL := ⟨_, rfl⟩
    rw [hWL]
    have hs2 := hb2.out.size
    have hsL : WL.heap.size = w4.heap.size + 1 := by rw [← hWL]; simp
    have hsame := heap_setCell_same w4 (w.heap.size + 1) 0 _ 3 (.int .i64 (q : Int)) hd2.out
    have hLS : LS w.heap.size a M c q w4.heap.size 0 WL := by
      rw [← hWL]
      refine ⟨CI.alloc ((ci_of hd1.out rfl).other (by omega)) _, CI.alloc ((ci_of hd2.out rfl).set _) _, CI.alloc ((ci_of hd3.out rfl).other (by omega)) _, ?_⟩
      have := heap_alloc_new (w4.setCell ⟨w.heap.size + 1, 0, none⟩ (.int .i64 (q : Int))) (.cells #[.int .i64 0] 3)
      rw [show (w4.setCell ⟨w.heap.size + 1, 0, none⟩ (.int .i64 (q : Int))).heap.size = w4.heap.size by simp] at this
      exact ci_of this rfl
    have hbwL : Below w.heap.size w WL := by
      rw [← hWL]
      exact ((chain2 hbcH.out hb2.out).setCell (p := ⟨w.heap.size + 1, 0, none⟩) (by show w.heap.size ≤ w.heap.size + 1; omega) _).alloc (by have := hbcH.out.size; simp; omega) _
    have hSqL : SeqAt WL wc.heap.size gr ga at' (restL zs at') aR mR cR ∧ gr ≠ w.heap.size + 1 ∧ ga ≠ w.heap.size + 1 := by
      refine ⟨?_, by omega, by omega⟩
      rw [← hWL]
      have hbA := below_alloc (w4.setCell ⟨w.heap.size + 1, 0, none⟩ (.int .i64 (q : Int))) (.cells #[.int .i64 0] 3)
      have hgot := hSq.out.hs
      refine ⟨(hbA.cell (p := ⟨gr, 0, none⟩) (by simpa using hgr)).trans ((World.cell?_of_block (heap_setCell_other w4 ⟨w.heap.size + 1, 0, none⟩ gr _ (by simp; omega))).trans hSq.out.hr), (hbA.cell (p := ⟨ga, 0, none⟩) (by simpa using hga)).trans ((World.cell?_of_block (heap_setCell_other w4 ⟨w.heap.size + 1, 0, none⟩ ga _ (by simp; omega))).trans hSq.out.ha), SlB.below ⟨hgot.len, ownsRow_setCell_below hgot.got (by show w.heap.size + 1 < _; omega) _, hgot.byt⟩ hbA⟩
    have hzb : Hid (AreBytes zs) := hlzH.out.1
    have hz5 : Hid (zs.length ≤ 500) := (show _ ≤ _ by have := hMH.out; omega)
    have hRD : Hid (∀ (k : Int) (W : World), Below w.heap.size w W → -9223372036854775808 ≤ k ∧ k ≤ 9223372036854775807 → Calls Tryd.prog 12 #[.slice a M c, .int .i64 k] W fun e w' => e = .returned (decV zs k) ∧ Below W.heap.size W w') := fun k W hW hk => refDecode_any a c M zs k W hMH.out (hTH.out.below hW hTH.out.size) (hlzH.out.below hW) hmc2 (by omega) hk
    have hnR : Hid (∀ (W : World), Below WL.heap.size WL W → SeqStopsK Fence.wide 7 Tryd.prog 24 #[.pointer (some ⟨gr, 0, none⟩), .pointer (some ⟨ga, 0, none⟩)] encS (Below w4.heap.size) (fun xs => xs = stp zs at') (fun pre => pre <+: stp zs at') (stp zs at').length W) := by
      intro W hW
      obtain ⟨hS, _, _⟩ := hSqL
      have hk : Below w.heap.size w W := chain2 hbwL hW
      refine all_stops 7 (by decide) w4.heap.size wc.heap.size gr ga at' (restL zs at') aR mR cR W (hTH.out.below hk hTH.out.size) ⟨(hW.cell (p := ⟨gr, 0, none⟩) (by show gr < _; omega)).trans hS.hr, (hW.cell (p := ⟨ga, 0, none⟩) (by show ga < _; omega)).trans hS.ha, hS.hs.below hW⟩ hgr hga (fun b off h => (World.ownsRow.lt hSq.out.hs.got b (by rw [h]; rfl)).2) (by have := hTH.out.size; have := hbcH.out.size; omega) (by have := hW.size; omega) ?_ ?_
      · rw [hS.hs.len]
        unfold restL
        split
        · simp; have := hz5.out; omega
        · simp
      · intro hm
        rw [hS.hs.len] at hm
        unfold restL at hm
        split at hm
        · have := hz5.out; omega
        · simp at hm
    clear hWL hsame hDA hse hWi x1 x2 q1 hd1 hd2 hd3 hg1H hg2H hg3H
    refine wpIn_loop_rounds 3 ?_
    rw [roundsIn_succ]
    obtain ⟨t1, t2⟩ := hLS.cT
    gi_wp2
    obtain ⟨WA, hWA⟩ : ∃ WA, (((WL.alloc (.cells #[.int .i64 at'] 3)).alloc (.cells #[.int .i64 0] 3)).alloc (.cells #[.bool false] 4)) = WA := ⟨_, rfl⟩
    rw [hWA]
    have hnew : ∀ (X : World) (o : Obj) (g : Nat), X.heap.size = g → (X.alloc o).heap[g]? = some o := fun X o g h => h ▸ heap_alloc_new X o
    have hsA : WA.heap.size = WL.heap.size + 3 := by rw [← hWA]; simp
    have hLA : LS w.heap.size a M c q w4.heap.size 0 WA := by rw [← hWA]; exact ((hLS.alloc _).alloc _).alloc _
    have cKA : CI WA (w4.heap.size + 1) 0 (.int .i64 (endF at' [])) := by rw [← hsL, ← hWA]; exact ci_of (alloc_heapN (alloc_heapN (heap_alloc_new WL _) _) _) rfl
    have cNA : CI WA (w4.heap.size + 1 + 1) 0 (.int .i64 ((([] : List StA).length : Nat) : Int)) := by rw [← hWA]; exact ci_of (alloc_heapN (hnew _ _ _ (by simp [hsL])) _) rfl
    have cLA : CI WA (w4.heap.size + 1 + 1 + 1) 0 (.bool false) := by rw [← hWA]; exact ci_of (hnew _ _ _ (by simp [hsL])) rfl
    have hBLA : Below WL.heap.size WL WA := by rw [← hWA]; exact chain2 (chain2 (below_alloc WL _) (below_alloc _ _)) (below_alloc _ _)
    have hBA : Below w.heap.size w WA := chain2 hbwL hBLA
    clear hWA t1 t2
    refine range_boxed 12 (by decide) rfl (hnR.out WA hBLA) (by omega) (Below.refl _ _) rfl
      (fun pre W => (LS w.heap.size a M c q w4.heap.size 0 W ∧ CI W (w4.heap.size + 1) 0 (.int .i64 (endF at' pre)) ∧ CI W (w4.heap.size + 1 + 1) 0 (.int .i64 (pre.length : Int)) ∧ CI W (w4.heap.size + 1 + 1 + 1) 0 (.bool false)) ∧ Below WL.heap.size WL W ∧ WA.heap.size ≤ W.heap.size)
      (fun c' pre W => c' = .ret ∧ ¬ (pre <+: stp zs at'))
      (fun s A B row hs hg hr => ⟨⟨hs.1.1.kept hg (fun r e => (hr r e).2), hs.1.2.1.kept hg (fun r e => (hr r e).2), hs.1.2.2.1.kept hg (fun r e => (hr r e).2), hs.1.2.2.2.kept hg (fun r e => (hr r e).2)⟩, hs.2.1.grown hg hs.2.1.size (fun k e => Nat.le_trans hBLA.size (hr k e).1), Nat.le_trans hs.2.2 hg.size⟩)
      (fun c' s A B row hs hg hr => hs)
      ⟨⟨hLA, cKA, cNA, cLA⟩, hBLA, Nat.le_refl _⟩ ?assign1 (fun pre W h => h.2.2) ?body1 ?done1 ?stop1
    case assign1 =>
      intro l pre x W K hi hsz hK
      gi_wp2
      refine (congrArg (fun t => K t _) ?_).mp (hK W.heap.size _ hsz (keeps_alloc _ _ _) ((Below.refl _ W).alloc (by omega) _) ⟨⟨hi.1.1.alloc _, hi.1.2.1.alloc _, hi.1.2.2.1.alloc _, hi.1.2.2.2.alloc _⟩, hi.2.1.alloc hi.2.1.size _, by have := hi.2.2; simp; omega⟩ (stepAt_new W x))
      simp [roundAct]
    case body1 =>
      rintro l pre x gx W hgx ⟨⟨hLS, hK, hN, hL⟩, hB, hsz⟩ hst hlen
      have hLSH := Hid.intro hLS
      have hKH := Hid.intro hK
      have hNH := Hid.intro hN
      have hLH := Hid.intro hL
      have hBH := Hid.intro hB
      have hszH := Hid.intro hsz
      have hstH := Hid.intro hst
      have hlen5 : (pre.length : Int) < 500 := by have := stp_len hzb.out at'; have := hz5.out; omega
      have hKr := endF_range pre at' ha
      have hRk := Hid.intro (hRD.out (endF at' pre) W (chain2 hbwL hB) hKr)
      have hpr : Hid ((pre ++ [x]) <+: stp zs at' → decE zs (endF at' pre) = 0 ∧ x = (endF at' pre, decL zs (endF at' pre), decX zs (endF at' pre))) := fun h => stp_at hzb.out (by have := hz5.out; omega) h
      have hsn := Hid.intro (endF_snoc pre x at')
      obtain ⟨k1, k2⟩ := hK
      obtain ⟨g1, g2⟩ := hLS.c1
      unfold decV at hRk
      simp only [roundAct, List.zip_toArray, List.zip_cons_cons, List.zip_nil_right, List.size_toArray, List.length_cons, List.length_nil, Nat.zero_add, List.foldl_toArray', List.foldl_cons, List.setIfInBounds_toArray, List.set_cons_succ, List.set_cons_zero, List.foldl_nil]
      clear hLS hN hL hB hsz hst hlen
      generalize decX zs (endF at' pre) = X at *
      generalize decL zs (endF at' pre) = L at *
      generalize decE zs (endF at' pre) = E at *
      obtain ⟨xo, xa, xb, xn, xf⟩ := X
      unfold Ins.val at hRk
      simp only at hRk
      by_cases hE : E = 0
      · subst hE
        by_cases hx : x = (endF at' pre, L, ⟨xo, xa, xb, xn, xf⟩)
        · subst hx
          simp only at hsn
          have hKb := hKH
          gi_wp2_with (refine ⟨trivial, ?_⟩; gi_at_call 12; refine (callsIn_wide.2 hRk.out).mono ?_; rintro e w1 ⟨rfl, hb1⟩; have hbA := Hid.intro (chain2 hb1 (below_alloc w1 (.cells #[.int .i64 xo, .int .i64 xa, .int .i64 xb, .int .i32 xn, .int .i64 xf] 26))); have hLS1 := Hid.intro (hLSH.out.below hbA.out); have hK1 := Hid.intro (hKH.out.bel hbA.out); have hN1 := Hid.intro (hNH.out.bel hbA.out); have hL1 := Hid.intro (hLH.out.bel hbA.out); obtain ⟨k1, k2⟩ := hK1.out; obtain ⟨n1, n2⟩ := hN1.out; obtain ⟨f1, f2⟩ := hL1.out; obtain ⟨g1, g2⟩ := hLS1.out.c1; obtain ⟨u1', u2'⟩ := hLS1.out.c2; obtain ⟨r1, r2⟩ := hLS1.out.c3; obtain ⟨t1, t2⟩ := hLS1.out.cT; obtain ⟨s0, s1, s2, s3, s4, s5, s6⟩ := (hstH.out.bel hbA.out).cells; (try (simp only at s0 s1 s2 s3 s4 s5 s6)); obtain ⟨i0, i1, i2, i3, i4, _⟩ := inst_new w1 xo xa xb xn xf; replace hb1 := Hid.intro hb1)
          refine ⟨(((keeps_below hb1.out).trans (keeps_alloc _ _ _)).trans (keeps_set _ _ _ _)).trans (keeps_set _ _ _ _), (((((Below.refl w4.heap.size W).trans (hb1.out.mono (by have := hszH.out; omega))).alloc (by have := hb1.out.size; have := hszH.out; omega) (.cells #[.int .i64 xo, .int .i64 xa, .int .i64 xb, .int .i32 xn, .int .i64 xf] 26)).setCell (p := ⟨(w4.heap.size + 1), 0, none⟩) (by show w4.heap.size ≤ (w4.heap.size + 1); omega) _).setCell (p := ⟨(w4.heap.size + 1 + 1), 0, none⟩) (by show w4.heap.size ≤ (w4.heap.size + 1 + 1); omega) _), ⟨⟨((hLS1.out.other (g := (w4.heap.size + 1)) (by omega) (by omega)).other (g := (w4.heap.size + 1 + 1)) (by omega) (by omega)), ?_, ?_, (hL1.out.other (by omega)).other (by omega)⟩, (((chain2 hBH.out hbA.out).setCell (p := ⟨(w4.heap.size + 1), 0, none⟩) (by show WL.heap.size ≤ (w4.heap.size + 1); omega) _).setCell (p := ⟨(w4.heap.size + 1 + 1), 0, none⟩) (by show WL.heap.size ≤ (w4.heap.size + 1 + 1); omega) _), by have := hszH.out; have := hbA.out.size; simp at this ⊢; omega⟩⟩
          · rw [hsn.out]
            exact ((hK1.out.set _).other (by omega))
          · have := (hN1.out.other (b' := (w4.heap.size + 1)) (k' := 0) (v' := .int .i64 (wrap64 (endF at' pre + L))) (by omega)).set (.int .i64 ((pre.length : Int) + 1))
            simpa using this
        · have hxr := step_ne_run x (endF at' pre, L, ⟨xo, xa, xb, xn, xf⟩) hx
          have hxH := Hid.intro hx
          simp only at hxr
          clear hx
          gi_wp2_with (refine ⟨trivial, ?_⟩; gi_at_call 12; refine (callsIn_wide.2 hRk.out).mono ?_; rintro e w1 ⟨rfl, hb1⟩; have hbA := Hid.intro (chain2 hb1 (below_alloc w1 (.cells #[.int .i64 xo, .int .i64 xa, .int .i64 xb, .int .i32 xn, .int .i64 xf] 26))); have hLS1 := Hid.intro (hLSH.out.below hbA.out); have hK1 := Hid.intro (hKH.out.bel hbA.out); have hN1 := Hid.intro (hNH.out.bel hbA.out); have hL1 := Hid.intro (hLH.out.bel hbA.out); obtain ⟨k1, k2⟩ := hK1.out; obtain ⟨n1, n2⟩ := hN1.out; obtain ⟨f1, f2⟩ := hL1.out; obtain ⟨g1, g2⟩ := hLS1.out.c1; obtain ⟨u1', u2'⟩ := hLS1.out.c2; obtain ⟨r1, r2⟩ := hLS1.out.c3; obtain ⟨t1, t2⟩ := hLS1.out.cT; obtain ⟨s0, s1, s2, s3, s4, s5, s6⟩ := (hstH.out.bel hbA.out).cells; (try (simp only at s0 s1 s2 s3 s4 s5 s6)); obtain ⟨i0, i1, i2, i3, i4, _⟩ := inst_new w1 xo xa xb xn xf; replace hb1 := Hid.intro hb1)
          exact ⟨((keeps_below hb1.out).trans (keeps_alloc _ _ _)).trans (keeps_set _ _ _ _), rfl, fun h => hxH.out (hpr.out h).2⟩
      · have e0 : (E == 0) = false := by simpa using hE
        have e1 : (E != 0) = true := by simpa using hE
        have hEH := Hid.intro hE
        clear hE
        gi_wp2_with (refine ⟨trivial, ?_⟩; gi_at_call 12; refine (callsIn_wide.2 hRk.out).mono ?_; rintro e w1 ⟨rfl, hb1⟩; have hbA := Hid.intro (chain2 hb1 (below_alloc w1 (.cells #[.int .i64 xo, .int .i64 xa, .int .i64 xb, .int .i32 xn, .int .i64 xf] 26))); have hLS1 := Hid.intro (hLSH.out.below hbA.out); have hK1 := Hid.intro (hKH.out.bel hbA.out); have hN1 := Hid.intro (hNH.out.bel hbA.out); have hL1 := Hid.intro (hLH.out.bel hbA.out); obtain ⟨k1, k2⟩ := hK1.out; obtain ⟨n1, n2⟩ := hN1.out; obtain ⟨f1, f2⟩ := hL1.out; obtain ⟨g1, g2⟩ := hLS1.out.c1; obtain ⟨u1', u2'⟩ := hLS1.out.c2; obtain ⟨r1, r2⟩ := hLS1.out.c3; obtain ⟨t1, t2⟩ := hLS1.out.cT; obtain ⟨s0, s1, s2, s3, s4, s5, s6⟩ := (hstH.out.bel hbA.out).cells; (try (simp only at s0 s1 s2 s3 s4 s5 s6)); obtain ⟨i0, i1, i2, i3, i4, _⟩ := inst_new w1 xo xa xb xn xf; replace hb1 := Hid.intro hb1)
        exact ⟨((keeps_below hb1.out).trans (keeps_alloc _ _ _)).trans (keeps_set _ _ _ _), rfl, fun h => hEH.out (hpr.out h).1⟩
    case done1 =>
      rintro D1 xs' W hD rfl ⟨⟨hLS, hK, hN, hL⟩, hB, hsz⟩ hDf
      have hEe := stp_end hzb.out (by have := hz5.out; omega) at'
      have hKr := endF_range (stp zs at') at' ha
      have hRk := Hid.intro (hRD.out _ W (chain2 hbwL hB) hKr)
      unfold decV at hRk
      have hLSH := Hid.intro hLS
      have hLH := Hid.intro hL
      have hBH := Hid.intro hB
      have hszH := Hid.intro hsz
      obtain ⟨k1, k2⟩ := hK
      obtain ⟨g1, g2⟩ := hLS.c1
      have hDH := Hid.intro hDf
      have hDl : D1 < W.heap.size := (Array.getElem?_eq_some_iff.1 hDf).1
      clear hLS hN hL hB hDf
      generalize endF at' (stp zs at') = KK at *
      generalize decX zs KK = X at *
      generalize decL zs KK = L at *
      generalize decE zs KK = E at *
      obtain ⟨xo, xa, xb, xn, xf⟩ := X
      unfold Ins.val at hRk
      simp only at hRk
      have e0 : (E == 0) = false := by simpa using hEe
      have e1 : (E != 0) = true := by simpa using hEe
      clear hEe
      gi_wp2_with (refine ⟨trivial, ?_⟩; gi_at_call 12; refine (callsIn_wide.2 hRk.out).mono ?_; rintro e w1 ⟨rfl, hb1⟩; have hbA := Hid.intro (chain2 hb1 (below_alloc w1 (.cells #[.int .i64 xo, .int .i64 xa, .int .i64 xb, .int .i32 xn, .int .i64 xf] 26))); have hLS1 := Hid.intro (hLSH.out.below hbA.out); obtain ⟨f1, f2⟩ := hLH.out.bel hbA.out; obtain ⟨t1, t2⟩ := hLS1.out.cT; replace hb1 := Hid.intro hb1)
      rw [roundsIn_succ]
      gi_wp2
      obtain ⟨WB, hWB⟩ : ∃ WB, (((((w1.alloc (.cells #[.int .i64 xo, .int .i64 xa, .int .i64 xb, .int .i32 xn, .int .i64 xf] 26)).alloc (.cells #[.int .i64 1] 3)).alloc (.cells #[.int .i64 at'] 3)).alloc (.cells #[.int .i64 0] 3)).alloc (.cells #[.bool false] 4)) = WB := ⟨_, rfl⟩
      rw [hWB]
      have hsB : WB.heap.size = w1.heap.size + 5 := by rw [← hWB]; simp
      have hsW := hb1.out.size
      have hszO := hszH.out
      have hLA2 : LS w.heap.size a M c q (w1.heap.size + 1) 1 WB := by
        rw [← hWB]
        have h4 := (((hLS1.out.alloc (.cells #[.int .i64 1] 3)).alloc (.cells #[.int .i64 at'] 3)).alloc (.cells #[.int .i64 0] 3)).alloc (.cells #[.bool false] 4)
        exact ⟨h4.c1, h4.c2, h4.c3, ci_of (alloc_heapN (alloc_heapN (alloc_heapN (hnew _ _ _ (by simp)) _) _) _) rfl⟩
      have cKA2 : CI WB (w1.heap.size + 1 + 1) 0 (.int .i64 (endF at' [])) := by rw [← hWB]; exact ci_of (alloc_heapN (alloc_heapN (hnew _ _ _ (by simp)) _) _) rfl
      have cNA2 : CI WB (w1.heap.size + 1 + 1 + 1) 0 (.int .i64 ((([] : List StA).length : Nat) : Int)) := by rw [← hWB]; exact ci_of (alloc_heapN (hnew _ _ _ (by simp)) _) rfl
      have cLA2 : CI WB (w1.heap.size + 1 + 1 + 1 + 1) 0 (.bool false) := by rw [← hWB]; exact ci_of (hnew _ _ _ (by simp)) rfl
      have hbAB : Below (w1.alloc (.cells #[.int .i64 xo, .int .i64 xa, .int .i64 xb, .int .i32 xn, .int .i64 xf] 26)).heap.size (w1.alloc (.cells #[.int .i64 xo, .int .i64 xa, .int .i64 xb, .int .i32 xn, .int .i64 xf] 26)) WB := by rw [← hWB]; exact chain2 (chain2 (chain2 (below_alloc _ _) (below_alloc _ _)) (below_alloc _ _)) (below_alloc _ _)
      have hWB2 : Below W.heap.size W WB := chain2 hbA.out hbAB
      have hBLB : Below WL.heap.size WL WB := chain2 hBH.out hWB2
      have hD1A : WB.heap[D1]? = some (.deferred (some [])) := (hWB2.block D1 hDl).trans hDH.out
      have hDA1 : D1 < WB.heap.size := by omega
      generalize hgb : w1.heap.size = wb at *
      clear hWB hbA hbAB hLS1 hb1 hWB2 hRk hDH hBH hLSH hLH k1 k2 g1 g2 f1 f2 t1 t2 hLA cKA cNA cLA
      refine range_boxed 12 (by decide) rfl (hnR.out WB hBLB) (by omega) (Below.refl _ _) rfl
        (fun pre W => (LS w.heap.size a M c q (wb + 1) 1 W ∧ CI W (wb + 1 + 1) 0 (.int .i64 (endF at' pre)) ∧ CI W (wb + 1 + 1 + 1) 0 (.int .i64 (pre.length : Int)) ∧ CI W (wb + 1 + 1 + 1 + 1) 0 (.bool false)) ∧ Below WL.heap.size WL W ∧ WB.heap.size ≤ W.heap.size ∧ W.heap[D1]? = some (.deferred (some [])))
        (fun c' pre W => (c' = .ret ∧ ¬ (pre <+: stp zs at')) ∨ (c' = .exit 2 ∧ (LS w.heap.size a M c q (wb + 1) 1 W ∧ CI W (wb + 1 + 1) 0 (.int .i64 (endF at' pre)) ∧ CI W (wb + 1 + 1 + 1 + 1) 0 (.bool true)) ∧ Below WL.heap.size WL W ∧ WB.heap.size ≤ W.heap.size ∧ W.heap[D1]? = some (.deferred (some []))))
        (fun s A B row hs hg hr => ⟨⟨hs.1.1.kept hg (fun r e => (hr r e).2), hs.1.2.1.kept hg (fun r e => (hr r e).2), hs.1.2.2.1.kept hg (fun r e => (hr r e).2), hs.1.2.2.2.kept hg (fun r e => (hr r e).2)⟩, hs.2.1.grown hg hs.2.1.size (fun k e => Nat.le_trans hBLB.size (hr k e).1), Nat.le_trans hs.2.2.1 hg.size, ownFrom_def hDA1 s A B row hs.2.2.2 hg hr⟩)
        (fun c' s A B row hs hg hr => hs.imp id (fun hs => ⟨hs.1, ⟨hs.2.1.1.kept hg (fun r e => (hr r e).2), hs.2.1.2.1.kept hg (fun r e => (hr r e).2), hs.2.1.2.2.kept hg (fun r e => (hr r e).2)⟩, hs.2.2.1.grown hg hs.2.2.1.size (fun k e => Nat.le_trans hBLB.size (hr k e).1), Nat.le_trans hs.2.2.2.1 hg.size, ownFrom_def hDA1 s A B row hs.2.2.2.2 hg hr⟩))
        ⟨⟨hLA2, cKA2, cNA2, cLA2⟩, hBLB, Nat.le_refl _, hD1A⟩ ?assign2 (fun pre W h => h.2.2.1) ?body2 ?done2 ?stop2
      case assign2 =>
        intro l pre x W K hi hsz hK
        gi_wp2
        refine (congrArg (fun t => K t _) ?_).mp (hK W.heap.size _ hsz (keeps_alloc _ _ _) ((Below.refl _ W).alloc (by omega) _) ⟨⟨hi.1.1.alloc _, hi.1.2.1.alloc _, hi.1.2.2.1.alloc _, hi.1.2.2.2.alloc _⟩, hi.2.1.alloc hi.2.1.size _, by have := hi.2.2.1; simp; omega, alloc_heapN hi.2.2.2 _⟩ (stepAt_new W x))
        simp [roundAct]
      case body2 =>
        rintro l pre x gx W hgx ⟨⟨hLS, hK, hN, hL⟩, hB, hsz, hD1⟩ hst hlen
        have hLSH := Hid.intro hLS
        have hKH := Hid.intro hK
        have hNH := Hid.intro hN
        have hLH := Hid.intro hL
        have hBH := Hid.intro hB
        have hszH := Hid.intro hsz
        have hstH := Hid.intro hst
        have hD1H := Hid.intro hD1
        have hDl1 : Hid (D1 < W.heap.size) := (Array.getElem?_eq_some_iff.1 hD1).1
        have hlen5 : (pre.length : Int) < 500 := by have := stp_len hzb.out at'; have := hz5.out; omega
        have hKr := endF_range pre at' ha
        have hRk := Hid.intro (hRD.out (endF at' pre) W (chain2 hbwL hB) hKr)
        have hpr : Hid ((pre ++ [x]) <+: stp zs at' → decE zs (endF at' pre) = 0 ∧ x = (endF at' pre, decL zs (endF at' pre), decX zs (endF at' pre))) := fun h => stp_at hzb.out (by have := hz5.out; omega) h
        have hsn := Hid.intro (endF_snoc pre x at')
        obtain ⟨k1, k2⟩ := hK
        obtain ⟨g1, g2⟩ := hLS.c1
        unfold decV at hRk
        simp only [roundAct, List.zip_toArray, List.zip_cons_cons, List.zip_nil_right, List.size_toArray, List.length_cons, List.length_nil, Nat.zero_add, List.foldl_toArray', List.foldl_cons, List.setIfInBounds_toArray, List.set_cons_succ, List.set_cons_zero, List.foldl_nil]
        clear hLS hN hL hB hsz hst hlen hD1
        generalize decX zs (endF at' pre) = X at *
        generalize decL zs (endF at' pre) = L at *
        generalize decE zs (endF at' pre) = E at *
        obtain ⟨xo, xa, xb, xn, xf⟩ := X
        unfold Ins.val at hRk
        simp only at hRk
        by_cases hE : E = 0
        · subst hE
          by_cases hx : x = (endF at' pre, L, ⟨xo, xa, xb, xn, xf⟩)
          · subst hx
            simp only at hsn
            have hKb := hKH
            by_cases hqn : (q : Int) < (pre.length : Int) + 1
            · have hqd : decide ((q : Int) < (pre.length : Int) + 1) = true := decide_eq_true hqn
              have hqd2 : (pre.length : Int) + 1 > (q : Int) := hqn
              have hqe : decide (q < pre.length + 1) = true := decide_eq_true (by omega)
              gi_wp2_with (refine ⟨trivial, ?_⟩; gi_at_call 12; refine (callsIn_wide.2 hRk.out).mono ?_; rintro e w1 ⟨rfl, hb1⟩; have hbA := Hid.intro (chain2 hb1 (below_alloc w1 (.cells #[.int .i64 xo, .int .i64 xa, .int .i64 xb, .int .i32 xn, .int .i64 xf] 26))); have hLS1 := Hid.intro (hLSH.out.below hbA.out); have hK1 := Hid.intro (hKH.out.bel hbA.out); have hN1 := Hid.intro (hNH.out.bel hbA.out); have hL1 := Hid.intro (hLH.out.bel hbA.out); obtain ⟨k1, k2⟩ := hK1.out; obtain ⟨n1, n2⟩ := hN1.out; obtain ⟨f1, f2⟩ := hL1.out; obtain ⟨g1, g2⟩ := hLS1.out.c1; obtain ⟨u1', u2'⟩ := hLS1.out.c2; obtain ⟨r1, r2⟩ := hLS1.out.c3; obtain ⟨t1, t2⟩ := hLS1.out.cT; obtain ⟨s0, s1, s2, s3, s4, s5, s6⟩ := (hstH.out.bel hbA.out).cells; (try (simp only at s0 s1 s2 s3 s4 s5 s6)); obtain ⟨i0, i1, i2, i3, i4, _⟩ := inst_new w1 xo xa xb xn xf; replace hb1 := Hid.intro hb1)
              refine ⟨((((keeps_below hb1.out).trans (keeps_alloc _ _ _)).trans (keeps_set _ _ _ _)).trans (keeps_set _ _ _ _)).trans (keeps_set _ _ _ _), .inr ⟨rfl, ⟨(((hLS1.out.other (g := (wb + 1 + 1)) (by omega) (by omega)).other (g := (wb + 1 + 1 + 1)) (by omega) (by omega))).other (g := (wb + 1 + 1 + 1 + 1)) (by omega) (by omega), ?_, ?_⟩, ((((chain2 hBH.out hbA.out).setCell (p := ⟨(wb + 1 + 1), 0, none⟩) (by show WL.heap.size ≤ (wb + 1 + 1); omega) _).setCell (p := ⟨(wb + 1 + 1 + 1), 0, none⟩) (by show WL.heap.size ≤ (wb + 1 + 1 + 1); omega) _)).setCell (p := ⟨(wb + 1 + 1 + 1 + 1), 0, none⟩) (by show WL.heap.size ≤ (wb + 1 + 1 + 1 + 1); omega) _, by have := hszH.out; have := hbA.out.size; simp at this ⊢; omega, mark_set (mark_set (mark_set ((hbA.out.block D1 hDl1.out).trans hD1H.out)))⟩⟩
              · rw [hsn.out]
                exact (((hK1.out.set _).other (by omega))).other (by omega)
              · exact ((hL1.out.other (by omega)).other (by omega)).set _
            · have hqd : decide ((q : Int) < (pre.length : Int) + 1) = false := decide_eq_false hqn
              have hqd2 : ¬ ((pre.length : Int) + 1 > (q : Int)) := hqn
              have hqe : decide (q < pre.length + 1) = false := decide_eq_false (by omega)
              gi_wp2_with (refine ⟨trivial, ?_⟩; gi_at_call 12; refine (callsIn_wide.2 hRk.out).mono ?_; rintro e w1 ⟨rfl, hb1⟩; have hbA := Hid.intro (chain2 hb1 (below_alloc w1 (.cells #[.int .i64 xo, .int .i64 xa, .int .i64 xb, .int .i32 xn, .int .i64 xf] 26))); have hLS1 := Hid.intro (hLSH.out.below hbA.out); have hK1 := Hid.intro (hKH.out.bel hbA.out); have hN1 := Hid.intro (hNH.out.bel hbA.out); have hL1 := Hid.intro (hLH.out.bel hbA.out); obtain ⟨k1, k2⟩ := hK1.out; obtain ⟨n1, n2⟩ := hN1.out; obtain ⟨f1, f2⟩ := hL1.out; obtain ⟨g1, g2⟩ := hLS1.out.c1; obtain ⟨u1', u2'⟩ := hLS1.out.c2; obtain ⟨r1, r2⟩ := hLS1.out.c3; obtain ⟨t1, t2⟩ := hLS1.out.cT; obtain ⟨s0, s1, s2, s3, s4, s5, s6⟩ := (hstH.out.bel hbA.out).cells; (try (simp only at s0 s1 s2 s3 s4 s5 s6)); obtain ⟨i0, i1, i2, i3, i4, _⟩ := inst_new w1 xo xa xb xn xf; replace hb1 := Hid.intro hb1)
              refine ⟨(((keeps_below hb1.out).trans (keeps_alloc _ _ _)).trans (keeps_set _ _ _ _)).trans (keeps_set _ _ _ _), (((((Below.refl w4.heap.size W).trans (hb1.out.mono (by have := hszH.out; omega))).alloc (by have := hb1.out.size; have := hszH.out; omega) (.cells #[.int .i64 xo, .int .i64 xa, .int .i64 xb, .int .i32 xn, .int .i64 xf] 26)).setCell (p := ⟨(wb + 1 + 1), 0, none⟩) (by show w4.heap.size ≤ (wb + 1 + 1); omega) _).setCell (p := ⟨(wb + 1 + 1 + 1), 0, none⟩) (by show w4.heap.size ≤ (wb + 1 + 1 + 1); omega) _), ⟨⟨((hLS1.out.other (g := (wb + 1 + 1)) (by omega) (by omega)).other (g := (wb + 1 + 1 + 1)) (by omega) (by omega)), ?_, ?_, (hL1.out.other (by omega)).other (by omega)⟩, (((chain2 hBH.out hbA.out).setCell (p := ⟨(wb + 1 + 1), 0, none⟩) (by show WL.heap.size ≤ (wb + 1 + 1); omega) _).setCell (p := ⟨(wb + 1 + 1 + 1), 0, none⟩) (by show WL.heap.size ≤ (wb + 1 + 1 + 1); omega) _), by have := hszH.out; have := hbA.out.size; simp at this ⊢; omega, mark_set (mark_set ((hbA.out.block D1 hDl1.out).trans hD1H.out))⟩⟩
              · rw [hsn.out]
                exact ((hK1.out.set _).other (by omega))
              · have := (hN1.out.other (b' := (wb + 1 + 1)) (k' := 0) (v' := .int .i64 (wrap64 (endF at' pre + L))) (by omega)).set (.int .i64 ((pre.length : Int) + 1))
                simpa using this
          · have hxr := step_ne_run x (endF at' pre, L, ⟨xo, xa, xb, xn, xf⟩) hx
            have hxH := Hid.intro hx
            simp only at hxr
            clear hx
            gi_wp2_with (refine ⟨trivial, ?_⟩; gi_at_call 12; refine (callsIn_wide.2 hRk.out).mono ?_; rintro e w1 ⟨rfl, hb1⟩; have hbA := Hid.intro (chain2 hb1 (below_alloc w1 (.cells #[.int .i64 xo, .int .i64 xa, .int .i64 xb, .int .i32 xn, .int .i64 xf] 26))); have hLS1 := Hid.intro (hLSH.out.below hbA.out); have hK1 := Hid.intro (hKH.out.bel hbA.out); have hN1 := Hid.intro (hNH.out.bel hbA.out); have hL1 := Hid.intro (hLH.out.bel hbA.out); obtain ⟨k1, k2⟩ := hK1.out; obtain ⟨n1, n2⟩ := hN1.out; obtain ⟨f1, f2⟩ := hL1.out; obtain ⟨g1, g2⟩ := hLS1.out.c1; obtain ⟨u1', u2'⟩ := hLS1.out.c2; obtain ⟨r1, r2⟩ := hLS1.out.c3; obtain ⟨t1, t2⟩ := hLS1.out.cT; obtain ⟨s0, s1, s2, s3, s4, s5, s6⟩ := (hstH.out.bel hbA.out).cells; (try (simp only at s0 s1 s2 s3 s4 s5 s6)); obtain ⟨i0, i1, i2, i3, i4, _⟩ := inst_new w1 xo xa xb xn xf; replace hb1 := Hid.intro hb1)
            exact ⟨((keeps_below hb1.out).trans (keeps_alloc _ _ _)).trans (keeps_set _ _ _ _), .inl ⟨rfl, fun h => hxH.out (hpr.out h).2⟩⟩
        · have e0 : (E == 0) = false := by simpa using hE
          have e1 : (E != 0) = true := by simpa using hE
          have hEH := Hid.intro hE
          clear hE
          gi_wp2_with (refine ⟨trivial, ?_⟩; gi_at_call 12; refine (callsIn_wide.2 hRk.out).mono ?_; rintro e w1 ⟨rfl, hb1⟩; have hbA := Hid.intro (chain2 hb1 (below_alloc w1 (.cells #[.int .i64 xo, .int .i64 xa, .int .i64 xb, .int .i32 xn, .int .i64 xf] 26))); have hLS1 := Hid.intro (hLSH.out.below hbA.out); have hK1 := Hid.intro (hKH.out.bel hbA.out); have hN1 := Hid.intro (hNH.out.bel hbA.out); have hL1 := Hid.intro (hLH.out.bel hbA.out); obtain ⟨k1, k2⟩ := hK1.out; obtain ⟨n1, n2⟩ := hN1.out; obtain ⟨f1, f2⟩ := hL1.out; obtain ⟨g1, g2⟩ := hLS1.out.c1; obtain ⟨u1', u2'⟩ := hLS1.out.c2; obtain ⟨r1, r2⟩ := hLS1.out.c3; obtain ⟨t1, t2⟩ := hLS1.out.cT; obtain ⟨s0, s1, s2, s3, s4, s5, s6⟩ := (hstH.out.bel hbA.out).cells; (try (simp only at s0 s1 s2 s3 s4 s5 s6)); obtain ⟨i0, i1, i2, i3, i4, _⟩ := inst_new w1 xo xa xb xn xf; replace hb1 := Hid.intro hb1)
          exact ⟨((keeps_below hb1.out).trans (keeps_alloc _ _ _)).trans (keeps_set _ _ _ _), .inl ⟨rfl, fun h => hEH.out (hpr.out h).1⟩⟩
      case done2 =>
        rintro D2 xs' W hD2 rfl ⟨⟨hLS, hK, hN, hL⟩, hB, hsz, hD1⟩ hDf
        have hEe := stp_end hzb.out (by have := hz5.out; omega) at'
        have hKr := endF_range (stp zs at') at' ha
        have hRk := Hid.intro (hRD.out _ W (chain2 hbwL hB) hKr)
        unfold decV at hRk
        have hLSH := Hid.intro hLS
        have hLH := Hid.intro hL
        have hBH := Hid.intro hB
        have hszH := Hid.intro hsz
        obtain ⟨k1, k2⟩ := hK
        obtain ⟨g1, g2⟩ := hLS.c1
        clear hN
        have hlD2 : D2 < W.heap.size := (Array.getElem?_eq_some_iff.1 hDf).1
        have hlD1 : D1 < W.heap.size := (Array.getElem?_eq_some_iff.1 hD1).1
        have hD2H := Hid.intro hDf
        have hD1H := Hid.intro hD1
        clear hLS hL hB hDf hD1
        generalize endF at' (stp zs at') = KK at *
        generalize decX zs KK = X at *
        generalize decL zs KK = L at *
        generalize decE zs KK = E at *
        obtain ⟨xo, xa, xb, xn, xf⟩ := X
        unfold Ins.val at hRk
        simp only at hRk
        have e0 : (E == 0) = false := by simpa using hEe
        have e1 : (E != 0) = true := by simpa using hEe
        clear hEe
        gi_wp2_with (refine ⟨trivial, ?_⟩; gi_at_call 12; refine (callsIn_wide.2 hRk.out).mono ?_; rintro e w1 ⟨rfl, hb1⟩; have hbA := Hid.intro (chain2 hb1 (below_alloc w1 (.cells #[.int .i64 xo, .int .i64 xa, .int .i64 xb, .int .i32 xn, .int .i64 xf] 26))); have hLS1 := Hid.intro (hLSH.out.below hbA.out); obtain ⟨f1, f2⟩ := hLH.out.bel hbA.out; obtain ⟨t1, t2⟩ := hLS1.out.cT; replace hb1 := Hid.intro hb1)
        rw [roundsIn_succ]
        gi_wp2_with (refine ⟨trivial, ?_⟩; gi_at_call 10; refine (callsIn_wide.2 (known_any _ (hTH.out.below (chain2 hbwL (chain2 (chain2 hBH.out hbA.out) (below_alloc _ _))) hTH.out.size))).mono ?_; rintro e w6 ⟨rfl, hb6⟩; obtain ⟨r61, r62⟩ := (hLS1.out.alloc (.cells #[.int .i64 2] 3)).c3.bel hb6; replace hb6 := Hid.intro hb6)
        have hb16 : Below W.heap.size W w6 := chain2 (chain2 hbA.out (below_alloc _ (.cells #[.int .i64 2] 3))) hb6.out
        have same : ∀ k o, W.heap[k]? = some o → k ≠ w.heap.size + 2 → (w6.setCell ⟨w.heap.size + 2, 0, none⟩ (.bool true)).heap[k]? = some o := fun k o hk hne => by
          have hlk := (Array.getElem?_eq_some_iff.1 hk).1
          rw [heap_setCell_other _ _ _ _ hne, hb16.block k hlk]
          exact hk
        have hszO := hszH.out
        have hK2f := same D2 _ hD2H.out (by omega)
        have hK1g := same D1 _ hD1H.out (by omega)
        have hcell := ((CI.mk r61 r62).set (.bool true)).cell
        have hBf : Below w.heap.size w (w6.setCell ⟨w.heap.size + 2, 0, none⟩ (.bool true)) := (chain2 (chain2 hbwL hBH.out) hb16).setCell (p := ⟨w.heap.size + 2, 0, none⟩) (by show w.heap.size ≤ w.heap.size + 2; omega) _
        clear same
        generalize (w6.setCell ⟨w.heap.size + 2, 0, none⟩ (.bool true)) = Wf at hK2f hK1g hcell hBf ⊢
        have hc1 := cell_kept hcell (grownBy_putObj' Wf D2 (.deferred none)) (fun r e => by cases e; exact ⟨_, hK2f, rfl⟩)
        have hK1f : (Wf.putObj D2 (.deferred none)).heap[D1]? = some (.deferred (some [])) := (World.putObj_heap_other (by omega)).trans hK1g
        have hc2 := cell_kept hc1 (grownBy_putObj' _ D1 (.deferred none)) (fun r e => by cases e; exact ⟨_, hK1f, rfl⟩)
        refine ⟨by simp, .inl ⟨_, _, rfl, run_takeDeferred hK2f, ⟨by simp, .inl ⟨_, _, rfl, run_takeDeferred hK1f, ?_⟩⟩⟩⟩
        refine ⟨.bool true, ?_, rfl, (hBf.trans (belowK_b (w := w) (Nat.le_refl _) _ D2 _ _ (by omega) hK2f rfl rfl)).trans (belowK_b (w := w) (Nat.le_refl _) _ D1 _ _ (by omega) hK1f rfl rfl)⟩
        simp [results, Tryd.results6, go_sem, hc2]
      case stop2 =>
        rintro D2 c' pre W hD2 hpre (⟨rfl, hno⟩ | ⟨rfl, ⟨hLS, hK, hL⟩, hB, hsz, hD1⟩) hDf
        · exact absurd hpre hno
        have hKr := endF_range (pre) at' ha
        have hRk := Hid.intro (hRD.out _ W (chain2 hbwL hB) hKr)
        unfold decV at hRk
        have hLSH := Hid.intro hLS
        have hLH := Hid.intro hL
        have hBH := Hid.intro hB
        have hszH := Hid.intro hsz
        obtain ⟨k1, k2⟩ := hK
        obtain ⟨g1, g2⟩ := hLS.c1
        have hlD2 : D2 < W.heap.size := (Array.getElem?_eq_some_iff.1 hDf).1
        have hlD1 : D1 < W.heap.size := (Array.getElem?_eq_some_iff.1 hD1).1
        have hD2H := Hid.intro hDf
        have hD1H := Hid.intro hD1
        clear hLS hL hB hDf hD1
        generalize endF at' pre = KK at *
        generalize decX zs KK = X at *
        generalize decL zs KK = L at *
        generalize decE zs KK = E at *
        obtain ⟨xo, xa, xb, xn, xf⟩ := X
        unfold Ins.val at hRk
        simp only at hRk
        gi_wp2_with (refine ⟨trivial, ?_⟩; gi_at_call 12; refine (callsIn_wide.2 hRk.out).mono ?_; rintro e w1 ⟨rfl, hb1⟩; have hbA := Hid.intro (chain2 hb1 (below_alloc w1 (.cells #[.int .i64 xo, .int .i64 xa, .int .i64 xb, .int .i32 xn, .int .i64 xf] 26))); have hLS1 := Hid.intro (hLSH.out.below hbA.out); obtain ⟨f1, f2⟩ := hLH.out.bel hbA.out; obtain ⟨t1, t2⟩ := hLS1.out.cT; replace hb1 := Hid.intro hb1)
        rw [roundsIn_succ]
        gi_wp2_with (refine ⟨trivial, ?_⟩; gi_at_call 10; refine (callsIn_wide.2 (known_any _ (hTH.out.below (chain2 hbwL (chain2 (chain2 hBH.out hbA.out) (below_alloc _ _))) hTH.out.size))).mono ?_; rintro e w6 ⟨rfl, hb6⟩; obtain ⟨r61, r62⟩ := (hLS1.out.alloc (.cells #[.int .i64 2] 3)).c3.bel hb6; replace hb6 := Hid.intro hb6)
        have hb16 : Below W.heap.size W w6 := chain2 (chain2 hbA.out (below_alloc _ (.cells #[.int .i64 2] 3))) hb6.out
        have same : ∀ k o, W.heap[k]? = some o → k ≠ w.heap.size + 2 → (w6.setCell ⟨w.heap.size + 2, 0, none⟩ (.bool true)).heap[k]? = some o := fun k o hk hne => by
          have hlk := (Array.getElem?_eq_some_iff.1 hk).1
          rw [heap_setCell_other _ _ _ _ hne, hb16.block k hlk]
          exact hk
        have hszO := hszH.out
        have hK2f := same D2 _ hD2H.out (by omega)
        have hK1g := same D1 _ hD1H.out (by omega)
        have hcell := ((CI.mk r61 r62).set (.bool true)).cell
        have hBf : Below w.heap.size w (w6.setCell ⟨w.heap.size + 2, 0, none⟩ (.bool true)) := (chain2 (chain2 hbwL hBH.out) hb16).setCell (p := ⟨w.heap.size + 2, 0, none⟩) (by show w.heap.size ≤ w.heap.size + 2; omega) _
        clear same
        generalize (w6.setCell ⟨w.heap.size + 2, 0, none⟩ (.bool true)) = Wf at hK2f hK1g hcell hBf ⊢
        have hc1 := cell_kept hcell (grownBy_putObj' Wf D2 (.deferred none)) (fun r e => by cases e; exact ⟨_, hK2f, rfl⟩)
        have hK1f : (Wf.putObj D2 (.deferred none)).heap[D1]? = some (.deferred (some [])) := (World.putObj_heap_other (by omega)).trans hK1g
        have hc2 := cell_kept hc1 (grownBy_putObj' _ D1 (.deferred none)) (fun r e => by cases e; exact ⟨_, hK1f, rfl⟩)
        refine ⟨by simp, .inl ⟨_, _, rfl, run_takeDeferred hK2f, ⟨by simp, .inl ⟨_, _, rfl, run_takeDeferred hK1f, ?_⟩⟩⟩⟩
        refine ⟨.bool true, ?_, rfl, (hBf.trans (belowK_b (w := w) (Nat.le_refl _) _ D2 _ _ (by omega) hK2f rfl rfl)).trans (belowK_b (w := w) (Nat.le_refl _) _ D1 _ _ (by omega) hK1f rfl rfl)⟩
        simp [results, Tryd.results6, go_sem, hc2]
    case stop1 =>
      rintro D c' pre W hD hpre ⟨rfl, hno⟩ hK
      exact absurd hpre hno
end Go.Proofs.YthboapfbgdcdoaaDoor
