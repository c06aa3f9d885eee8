/- equ.walk's visit. -/
import Derived.Test.YtebbbefknfldoaaRgL
/- equ.walk's finish. -/
namespace Go.Proofs.Ytebbbefknfldoaa
open Go.ChangeShapes Go.WideShapes Go.ChangeAt Go.RowKit
set_option linter.unusedVariables false
set_option linter.unusedSimpArgs false
set_option maxRecDepth 100000
theorem info3 : (Try.prog.info? 3).map (fun i => (i.zero, i.size, i.bytes)) = some (some (.int .i64 0), 1, 8) := by kernel_rfl
def selfF (l : List Eqv) (i : Nat) : Bool := match l[i]? with | some q => inT q.1 q.2.terms | none => false
def ringS (s : Ta.St) (ring : List Nat) (p : Nat → Bool) (j : Nat) : Ta.St := { s with met := fun v => if v ∈ ring.take j then Ta.big else s.met v, back := s.back ++ (ring.take j).filter p }
theorem ringS_zero (s : Ta.St) (ring : List Nat) (p : Nat → Bool) : ringS s ring p 0 = s := by
  unfold ringS
  simp
theorem take_one {ring : List Nat} {j i : Nat} (h : ring[j]? = some i) : ring.take (j + 1) = ring.take j ++ [i] := by
  rw [List.take_add_one, h]
  rfl
theorem ringS_yes (s : Ta.St) {ring : List Nat} {p : Nat → Bool} {j i : Nat} (h : ring[j]? = some i) (hp : p i = true) : ({ ({ ringS s ring p j with met := Ta.upd (ringS s ring p j).met i Ta.big } : Ta.St) with back := (ringS s ring p j).back ++ [i] } : Ta.St) = ringS s ring p (j + 1) := by
  unfold ringS
  rw [take_one h, List.filter_append]
  simp only [List.filter_cons, hp, if_true, List.filter_nil, List.append_assoc]
  congr 1
  funext v
  unfold Ta.upd
  by_cases hv : v = i
  · subst hv; simp
  · rw [if_neg hv]; simp [hv]
theorem ringS_no (s : Ta.St) {ring : List Nat} {p : Nat → Bool} {j i : Nat} (h : ring[j]? = some i) (hp : p i = false) : ({ ringS s ring p j with met := Ta.upd (ringS s ring p j).met i Ta.big } : Ta.St) = ringS s ring p (j + 1) := by
  unfold ringS
  rw [take_one h, List.filter_append]
  simp only [List.filter_cons, hp, Bool.false_eq_true, if_false, List.filter_nil, List.append_nil]
  congr 1
  funext v
  unfold Ta.upd
  by_cases hv : v = i
  · subst hv; simp
  · rw [if_neg hv]; simp [hv]
section
variable {w0 w w' w1 : World} {b : Nat → Nat} {l : List Eqv} {la : Option Addr} {lc na nb : Nat} {s : Ta.St}
theorem FS.opAt (h : FS w0 b l la lc na nb s w) {a : Option Addr} {n c : Nat} (ho : w.heap[b 0]? = some (.cells #[.slice a n c] 65 (0, 0))) : n = s.opn.length ∧ w.ownsRow w0.heap.size 3 1 (.slice a s.opn.length c) s.opn.length (rowN s.opn) := by
  obtain ⟨a', c', o1, o2, o3, _⟩ := h.op
  rw [ho] at o1
  simp only [Option.some.injEq, Obj.cells.injEq, Array.mk.injEq, List.cons.injEq, Value.slice.injEq, true_and, and_true] at o1
  obtain ⟨rfl, rfl, rfl⟩ := o1
  exact ⟨rfl, o2⟩
theorem own_addr {lo : Nat} {T : TypeId} {sz : Nat} {a : Option Addr} {n c : Nat} {xs : List Value} (h : w.ownsRow lo T sz (.slice a n c) n xs) (hn : 0 < n) : ∃ g, a = some ⟨g, 0, none⟩ ∧ n ≤ c ∧ ∀ j u, xs[j]? = some u → w.cell? ⟨g, j, none⟩ = some u := by
  have h' := h
  rcases h.2 with ⟨_, e⟩ | ⟨g, cap, cur, hv, k2, k3, k4, k5, k6, k7⟩
  · omega
  · injection hv with e1 e2 e3
    subst e1
    subst e3
    refine ⟨g, rfl, k4, fun j u hu => ?_⟩
    have := h'.cells (g := g) rfl j u hu
    have hadd : (⟨g, 0, none⟩ : Addr).add j = ⟨g, j, none⟩ := by unfold Addr.add; split <;> simp_all
    rw [hadd] at this
    exact this
set_option maxHeartbeats 16000000 in
theorem finish_is (h : FS w0 b l la lc na nb s w) (frm : Nat) (hfr : frm < s.opn.length) (hin : ∀ i ∈ s.opn, i < l.length) (hlen : s.opn.length ≤ 100000) (hl : l.length ≤ 100000) (hord : s.order.length ≤ 100000) (hnb : nb ≤ 1000000) (hheld : ∀ q ∈ l, q.1.length ≤ 140737488355328 ∧ q.2.terms.length ≤ 4400000) :
    Calls Try.prog 42 #[.int .i64 (frm : Int), bp b 0, bp b 1, bp b 2, bp b 3, bp b 4] w fun e w' => e = .returned (.tuple #[]) ∧ ∃ nb', nb' ≤ nb + (s.opn.length - frm) ∧ FS w0 b l la lc na nb' (Ta.finishF (selfF l) frm s) w' := by
  obtain ⟨a, c, o1, o2, o3, _⟩ := h.op
  obtain ⟨g, rfl, hnc, hcells⟩ := own_addr o2 (by omega)
  have hcb := o1
  obtain ⟨ring, hring⟩ : ∃ ring, ring = s.opn.drop frm := ⟨_, rfl⟩
  obtain ⟨n0, hn0⟩ : ∃ n0, n0 = ring.length := ⟨_, rfl⟩
  have hrl : ring.length = s.opn.length - frm := by rw [hring, List.length_drop]
  have hn1 : n0 = s.opn.length - frm ∧ 0 < n0 := by omega
  obtain ⟨p, hp⟩ : ∃ p : Nat → Bool, p = fun j => decide (1 < ring.length) || selfF l j := ⟨_, rfl⟩
  have hfinal : Hid (∀ nb' W, FS w0 b l la lc na nb' (ringS s ring p n0) W → True) := fun _ _ _ => trivial
  have hget : Hid (∀ j, j < n0 → ∃ i, ring[j]? = some i ∧ i < l.length ∧ ∀ (nb' : Nat) (W : World) (k : Nat), FS w0 b l la lc na nb' (ringS s ring p k) W → W.heap[b 0]? = some (.cells #[.slice (some ⟨g, 0, none⟩) s.opn.length c] 65 (0, 0)) → W.cell? ⟨g, frm + j, none⟩ = some (.int .i64 (i : Int))) := fun j hj => by
    have h1 : j < ring.length := by omega
    obtain ⟨i, hij⟩ : ∃ i, ring[j]? = some i := ⟨_, List.getElem?_eq_getElem h1⟩
    have hmem := List.mem_of_getElem? hij
    rw [hring] at hmem
    refine ⟨i, hij, hin _ (List.mem_of_mem_drop hmem), fun nb' W k hF hoW => ?_⟩
    obtain ⟨_, r⟩ := hF.opAt hoW
    obtain ⟨g', e1, _, hc⟩ := own_addr r (by show 0 < s.opn.length; omega)
    cases e1
    refine hc (frm + j) _ ?_
    show (rowN s.opn)[frm + j]? = _
    unfold rowN
    rw [List.getElem?_map, ← List.getElem?_drop, ← hring, hij]
    rfl
  have hla : Hid (∃ gl ol, la = some ⟨gl, ol, none⟩ ∧ ∀ i, i < l.length → ∀ W, Below w0.heap.size w0 W → ∃ q va vc, l[i]? = some q ∧ EqAt W gl (ol + i * 3) q va vc) := by
    have hl0 : 0 < l.length := by
      have := hin (s.opn[frm]) (List.getElem_mem hfr)
      omega
    rcases h.lie with e | ⟨gl, ol, e1, e2, e3⟩
    · rw [e] at hl0; simp at hl0
    · refine ⟨gl, ol, e1, fun i hi W hB => ?_⟩
      obtain ⟨va, vc, hq⟩ := e3 i l[i] (List.getElem?_eq_getElem hi)
      exact ⟨l[i], va, vc, List.getElem?_eq_getElem hi, hq.below e2 hB⟩
  obtain ⟨gl, ol, hlae, hleq⟩ := hla.out
  subst hlae
  replace hleq := Hid.intro hleq
  obtain ⟨nl, hnl⟩ : ∃ nl, nl = l.length := ⟨_, rfl⟩
  have hst0 : Hid (FS w0 b l (some ⟨gl, ol, none⟩) lc na nb (ringS s ring p 0) w) := by show FS _ _ _ _ _ _ _ _ _; rw [ringS_zero]; exact h
  have ho0 := Hid.intro o1
  have hno := Hid.intro (fun (nb' : Nat) (W : World) (k : Nat) (hF : FS w0 b l (some ⟨gl, ol, none⟩) lc na nb' (ringS s ring p k) W) => hF)
  have b0c := (Joins.cell_of_block o1 0).trans rfl
  obtain ⟨m0, hm0⟩ : ∃ m0, m0 = s.opn.length := ⟨_, rfl⟩
  have hpA : Hid (1 < n0 → ∀ i, p i = true) := fun h1 i => by rw [hp, ← hn0]; simp [h1]
  have hpB : Hid (n0 = 1 → ∀ i, p i = selfF l i) := fun h1 i => by rw [hp, ← hn0, h1]; simp
  have hsl : Hid (Value.slice (some ⟨g, 0, none⟩) s.opn.length c = .slice (some ⟨g, 0, none⟩) m0 c) := by show _ = _; rw [hm0]
  rw [← hm0] at hn1 hlen hfr b0c hnc ho0
  rw [← hm0] at hget
  have hgetH := hget
  have hnl0 : Hid (ring.length = n0) := hn0.symm
  obtain ⟨i3, hi3, hz0, hz1, hz2⟩ := info_parts info3
  have hfin : Hid (∀ (nb' : Nat) (W : World), FS w0 b l (some ⟨gl, ol, none⟩) lc na nb' (ringS s ring p n0) W → W.heap[b 0]? = some (.cells #[.slice (some ⟨g, 0, none⟩) m0 c] 65 (0, 0)) → ∃ a2 k2 c2, k2 ≤ 100000 ∧ W.heap[b 4]? = some (.cells #[.slice a2 k2 c2] 65 (0, 0)) ∧ W.ownsRow w0.heap.size 3 1 (.slice a2 k2 c2) k2 (rowN s.order) ∧ Src W (.slice (some ⟨g, frm, none⟩) n0 (c - frm)) n0 (rowN ring) ∧ w0.heap.size ≤ W.heap.size ∧
      ∀ a3 c3 W1, W1.ownsRow w0.heap.size 3 1 (.slice a3 (k2 + n0) c3) (k2 + n0) (rowN s.order ++ rowN ring) → W.grownBy W1 (Value.slice a2 k2 c2).ownBlock → ((Value.slice a3 (k2 + n0) c3).ownBlock = (Value.slice a2 k2 c2).ownBlock ∨ (Value.slice a3 (k2 + n0) c3).ownBlock = some W.heap.size) → W1.heap[b 4]? = some (.cells #[.slice a2 k2 c2] 65 (0, 0)) ∧ (W1.setCell ⟨b 4, 0, none⟩ (.slice a3 (k2 + n0) c3)).heap[b 0]? = some (.cells #[.slice (some ⟨g, 0, none⟩) m0 c] 65 (0, 0)) ∧ FS w0 b l (some ⟨gl, ol, none⟩) lc na nb' (Ta.finishF (selfF l) frm s) ((W1.setCell ⟨b 4, 0, none⟩ (.slice a3 (k2 + n0) c3)).setCell ⟨b 0, 0, none⟩ (.slice (some ⟨g, 0, none⟩) frm c))) := fun nb' W hF hoW => by
    have htk : ring.take n0 = ring := by rw [hn0, List.take_length]
    obtain ⟨a, c', q1, q2, q3, a2, c2, r1, r2, r3⟩ := hF.op
    refine ⟨a2, s.order.length, c2, hord, r1, r2, .inr ⟨_, _, rfl, fun j u hu => ?_⟩, hF.bel.size, fun a3 c3 W1 ho hg hw => ?_⟩
    · unfold rowN at hu
      rw [List.getElem?_map] at hu
      cases hr : ring[j]? with
      | none => rw [hr] at hu; cases hu
      | some i =>
        rw [hr] at hu
        cases hu
        obtain ⟨i', e1, _, e2⟩ := hget.out j (by have := (List.getElem?_eq_some_iff.1 hr).1; omega)
        rw [hr] at e1
        cases e1
        have hadd : (⟨g, frm, none⟩ : Addr).add j = ⟨g, frm + j, none⟩ := by unfold Addr.add; split <;> simp_all
        rw [hadd]
        exact e2 nb' W n0 hF hoW
    · rw [hn0] at ho hw ⊢
      obtain ⟨t1, hF2⟩ := hF.ordPush r1 ring ho hg hw
      have hne : some (b 0) ≠ (Value.slice a2 s.order.length c2).ownBlock := fun e => (r3 _ e.symm).1 0 (by decide) rfl
      have t2 := (hg.block _ (wblk_lt hoW) hne).trans hoW
      obtain ⟨u1, u2⟩ := row_set t1 0 (.slice a3 (s.order.length + ring.length) c3)
      have t3 := (u2.block _ (wblk_lt t2) (fun e => hF.ap.ne (i := 0) (j := 4) (by decide) (by decide) (by decide) (Option.some.inj e))).trans t2
      refine ⟨t1, t3, ?_⟩
      have t4 := t3
      rw [hm0] at t4
      obtain ⟨v1, _⟩ := hF2.cut t4 frm (by show frm ≤ s.opn.length; omega) (by show 0 < s.opn.length; omega)
      have efin : Ta.finishF (selfF l) frm s = { ({ ringS s ring p n0 with order := s.order ++ ring } : Ta.St) with opn := s.opn.take frm } := by
        unfold Ta.finishF ringS
        rw [← hring, htk, hp]
      rw [efin]
      exact v1
  clear hget hla hfinal hring hp hn0 hrl o1 o2 o3 hcells hcb hin h hsl hnl
  replace hm0 := Hid.intro hm0
  go_enter Try.func42, Try.ntmps42
  go_wp2
  all_goals first | omega | skip
  go_loopw [15] (fun v15 wr => ∃ (j nb' : Nat), j ≤ n0 ∧ nb' ≤ nb + j ∧ v15 = .int .i64 (j : Int) ∧ Hid (FS w0 b l (some ⟨gl, ol, none⟩) lc na nb' (ringS s ring p j) wr) ∧ Hid (wr.heap[b 0]? = some (.cells #[.slice (some ⟨g, 0, none⟩) m0 c] 65 (0, 0)))) (fun v15 _ => n0 - (intOf v15).toNat)
  case atStart => exact ⟨0, nb, by omega, by omega, by first | rfl | go_num, hst0, ho0⟩
  case round =>
    obtain ⟨j, nb', hj, hnbj, rfl, hF, ho⟩ := hrel
    by_cases hjn : j < n0
    · obtain ⟨i, hri, hil, hci⟩ := hgetH.out j hjn
      have c13 := hci nb' wr j hF.out ho.out
      have x1 := (Joins.cell_of_block hF.out.mb 0).trans rfl
      have x9 := (Joins.cell_of_block hF.out.mm i).trans (metR_get l.length _ i hil)
      have f9 := frozen_of_row wr (b 9) i _ 3 hF.out.mm
      obtain ⟨hF1, hg1⟩ := hF.out.metSet i Ta.big hil
      have ho1 := hF.out.kp (j := 9) (by decide) hg1 (i := 0) (by decide) (by decide) ho.out
      rw [show ((Ta.big : Nat) : Int) = 9223372036854775807 from rfl] at hF1 ho1
      have hcell : Hid (∀ W, Below w0.heap.size w0 W → W.cell? ⟨gl, ol + i * 3, none⟩ = some (.string (str (nmOf l i)))) := fun W hB => by
        obtain ⟨q, va, vc, h1, h2⟩ := hleq.out i hil W hB
        unfold nmOf
        rw [h1]
        exact h2.name
      have hnm : Hid ((nmOf l i).length ≤ 140737488355328) := by
        show _ ≤ _
        unfold nmOf
        rw [List.getElem?_eq_getElem hil]
        exact (hheld _ (List.getElem_mem hil)).1
      have hnb2 : nb' ≤ 3000000 := by omega
      have hyes : Hid (p i = true → ∀ nb2 W, FS w0 b l (some ⟨gl, ol, none⟩) lc na nb2 { ({ ringS s ring p j with met := Ta.upd (ringS s ring p j).met i Ta.big } : Ta.St) with back := (ringS s ring p j).back ++ [i] } W → FS w0 b l (some ⟨gl, ol, none⟩) lc na nb2 (ringS s ring p (j + 1)) W) := fun hp1 nb2 W hW => by rw [ringS_yes s hri hp1] at hW; exact hW
      have hnot : Hid (p i = false → ∀ nb2 W, FS w0 b l (some ⟨gl, ol, none⟩) lc na nb2 { ringS s ring p j with met := Ta.upd (ringS s ring p j).met i Ta.big } W → FS w0 b l (some ⟨gl, ol, none⟩) lc na nb2 (ringS s ring p (j + 1)) W) := fun hp1 nb2 W hW => by rw [ringS_no s hri hp1] at hW; exact hW
      replace hF1 := Hid.intro hF1
      replace ho1 := Hid.intro ho1
      have hile := Hid.intro hil
      clear hg1 hri
      by_cases h1 : 1 < n0
      · have hnx := Hid.intro (hyes.out (hpA.out h1 i) (nb' + 1))
        have h1' : (1 : Int) < (n0 : Int) := by omega
        clear hnot hyes
        go_upto_region 6 with fail
        all_goals first | omega | skip
        generalize wr.setCell ⟨b 9, i, none⟩ (.int .i64 9223372036854775807) = W1 at *
        have hFd := Hid.intro (hF1.out.below ((Below.refl _ W1).drew))
        obtain ⟨wu, hrun, hIs, hgu⟩ := intput_run hFd.out.kk hnb2 (nmOf l i) (i : Int) hnm.out
        have hF6 := Hid.intro (hFd.out.backPut i hIs hgu)
        have ho6 := Hid.intro (hFd.out.kp (j := 10) (by decide) hgu (i := 0) (by decide) (by decide) ho1.out)
        have q0 := hcell.out _ hFd.out.bel
        have x3 := (Joins.cell_of_block hFd.out.kb 0).trans rfl
        have x2 := (Joins.cell_of_block hFd.out.lb 0).trans rfl
        clear hIs hgu hFd
        refine wp_region_last (by kernel_rfl) 7 _ rfl rfl rfl (by kernel_rfl) (fun W => W.cell? ⟨b 3, 0, none⟩ = some (.map (some (b 10))) ∧ W.cell? ⟨b 2, 0, none⟩ = some (.slice (some ⟨gl, ol, none⟩) l.length lc) ∧ W.cell? ⟨gl, ol + i * 3, none⟩ = some (.string (str (nmOf l i)))) ⟨x3, x2, q0⟩ (fun hHeld => ?_)
        simp only [List.setIfInBounds_toArray, List.set_cons_succ, List.set_cons_zero, noOp]
        generalize W1.drew = DW at *
        refine wpAnyH_take (i := 0) (v := ?vm1_0) (by simp only [List.getElem?_toArray, List.getElem?_cons_succ, List.getElem?_cons_zero]; rfl) (by kernel_rfl) (by kernel_rfl) (by kernel_rfl) (by exact fun _ _ _ h => h) (Or.inl ⟨by rfl, ?ym1_0⟩) (by assumption) ?rm1_0
        case ym1_0 => (intro w hSw; (try dsimp only at hSw); go_simp; (try with_reducible rfl))
        try simp only [Act.put, List.setIfInBounds_toArray, List.set_cons_zero, List.set_cons_succ]
        refine wpAnyH_take (i := 1) (v := ?vm1_1) (by simp only [List.getElem?_toArray, List.getElem?_cons_succ, List.getElem?_cons_zero]; rfl) (by kernel_rfl) (by kernel_rfl) (by kernel_rfl) (by exact fun _ _ _ h => h) (Or.inl ⟨by rfl, ?ym1_1⟩) (by assumption) ?rm1_1
        case ym1_1 => (intro w hSw; (try dsimp only at hSw); go_simp; (try with_reducible rfl))
        try simp only [Act.put, List.setIfInBounds_toArray, List.set_cons_zero, List.set_cons_succ]
        refine wpAnyH_take (i := 2) (v := ?vm1_2) (by simp only [List.getElem?_toArray, List.getElem?_cons_succ, List.getElem?_cons_zero]; rfl) (by kernel_rfl) (by kernel_rfl) (by kernel_rfl) (by exact fun _ _ _ h => h) (Or.inl ⟨by rfl, ?ym1_2⟩) (by assumption) ?rm1_2
        case ym1_2 => (intro w hSw; (try dsimp only at hSw); go_simp; (try with_reducible rfl))
        try simp only [Act.put, List.setIfInBounds_toArray, List.set_cons_zero, List.set_cons_succ]
        refine wpAnyH_take (i := 3) (v := ?vm1_3) (by simp only [List.getElem?_toArray, List.getElem?_cons_succ, List.getElem?_cons_zero]; rfl) (by kernel_rfl) (by kernel_rfl) (by kernel_rfl) (by exact fun _ _ _ h => h) (Or.inl ⟨by rfl, ?ym1_3⟩) (by assumption) ?rm1_3
        case ym1_3 => (intro w hSw; (try dsimp only at hSw); go_simp; (try with_reducible rfl))
        try simp only [Act.put, List.setIfInBounds_toArray, List.set_cons_zero, List.set_cons_succ]
        refine wpAnyH_take (i := 4) (v := ?vm1_4) (by simp only [List.getElem?_toArray, List.getElem?_cons_succ, List.getElem?_cons_zero]; rfl) (by kernel_rfl) (by kernel_rfl) (by kernel_rfl) (by exact fun _ _ _ h => h) (Or.inl ⟨by rfl, ?ym1_4⟩) (by assumption) ?rm1_4
        case ym1_4 => (intro w hSw; (try dsimp only at hSw); go_simp; (try with_reducible rfl))
        try simp only [Act.put, List.setIfInBounds_toArray, List.set_cons_zero, List.set_cons_succ]
        refine wpAnyH_take (i := 5) (v := ?vm1_5) (by simp only [List.getElem?_toArray, List.getElem?_cons_succ, List.getElem?_cons_zero]; rfl) (by kernel_rfl) (by kernel_rfl) (by kernel_rfl) (by exact fun _ _ _ h => h) (Or.inl ⟨by rfl, ?ym1_5⟩) (by assumption) ?rm1_5
        case ym1_5 => (intro w hSw; (try dsimp only at hSw); go_simp; (try with_reducible rfl))
        try simp only [Act.put, List.setIfInBounds_toArray, List.set_cons_zero, List.set_cons_succ]
        refine wpAnyH_take (i := 6) (v := ?vm1_6) (by simp only [List.getElem?_toArray, List.getElem?_cons_succ, List.getElem?_cons_zero]; rfl) (by kernel_rfl) (by kernel_rfl) (by kernel_rfl) (by exact fun _ _ _ h => h) (Or.inl ⟨by rfl, ?ym1_6⟩) (by assumption) ?rm1_6
        case ym1_6 => (intro w hSw; (try dsimp only at hSw); go_simp; (try with_reducible rfl))
        try simp only [Act.put, List.setIfInBounds_toArray, List.set_cons_zero, List.set_cons_succ]
        refine wpAnyH_take (i := 7) (v := ?vm1_7) (by simp only [List.getElem?_toArray, List.getElem?_cons_succ, List.getElem?_cons_zero]; rfl) (by kernel_rfl) (by kernel_rfl) (by kernel_rfl) (by exact fun _ _ _ h => h) (Or.inl ⟨by rfl, ?ym1_7⟩) (by assumption) ?rm1_7
        case ym1_7 => (intro w hSw; (try dsimp only at hSw); go_simp; (try with_reducible rfl))
        try simp only [Act.put, List.setIfInBounds_toArray, List.set_cons_zero, List.set_cons_succ]
        refine wpAnyH_done (by kernel_rfl) ?_ _
        show Oper.wp _ _ _ _ _ _
        go_simp
        all_goals (go_wp2_with fail)
        all_goals first | omega | skip
        all_goals go_roundw
        all_goals first
          | exact ⟨j + 1, nb' + 1, by omega, by omega, by go_num, by first | exact hnx.out _ hF6.out | exact hF6, ho6⟩
          | (simp [intOf]; omega)
      · have hn01 : n0 = 1 := by omega
        have hpi := hpB.out hn01 i
        have h1' : ¬ (1 : Int) < (n0 : Int) := by omega
        clear hn01
        obtain ⟨q, va, vc, hq1, hq2⟩ := hleq.out i hil _ hF1.out.bel
        have q0 := hq2.name
        have q1 := hq2.terms
        have q2 := hq2.const
        have x2' := (Joins.cell_of_block hF1.out.lb 0).trans rfl
        have h43 := Hid.intro (leads_any q.1 q.2.const va vc q.2.terms (hheld q (List.mem_of_getElem? hq1)).2 _ hq2.lies)
        have hpq : p i = inT q.1 q.2.terms := by rw [hpi]; unfold selfF; rw [hq1]
        obtain ⟨tl, htl⟩ : ∃ tl, tl = q.2.terms.length := ⟨_, rfl⟩
        rw [← htl] at q1 h43
        clear hq1 hq2 htl hpi
        generalize hB : inT q.1 q.2.terms = pq at *
        cases pq with
        | true =>
          have hnx := Hid.intro (hyes.out hpq (nb' + 1))
          clear hnot hyes hB
          go_upto_region 6 with (go_at_call 43; (with_reducible refine (h43.out).mono ?_); rintro e w2 ⟨rfl, hb2⟩; have hF2 := Hid.intro (hF1.out.below hb2); have ho2 := Hid.intro ((hb2.block _ (wblk_lt ho1.out)).trans ho1.out); clear hb2 h43 q0 q1 q2 x2')
          all_goals first | omega | skip
          have hFd := Hid.intro (hF2.out.below ((Below.refl _ w2).drew))
          obtain ⟨wu, hrun, hIs, hgu⟩ := intput_run hFd.out.kk hnb2 (nmOf l i) (i : Int) hnm.out
          have hF6 := Hid.intro (hFd.out.backPut i hIs hgu)
          have ho6 := Hid.intro (hFd.out.kp (j := 10) (by decide) hgu (i := 0) (by decide) (by decide) ho2.out)
          have q0 := hcell.out _ hFd.out.bel
          have x3 := (Joins.cell_of_block hFd.out.kb 0).trans rfl
          have x2 := (Joins.cell_of_block hFd.out.lb 0).trans rfl
          clear hIs hgu hFd
          refine wp_region_last (by kernel_rfl) 7 _ rfl rfl rfl (by kernel_rfl) (fun W => W.cell? ⟨b 3, 0, none⟩ = some (.map (some (b 10))) ∧ W.cell? ⟨b 2, 0, none⟩ = some (.slice (some ⟨gl, ol, none⟩) l.length lc) ∧ W.cell? ⟨gl, ol + i * 3, none⟩ = some (.string (str (nmOf l i)))) ⟨x3, x2, q0⟩ (fun hHeld => ?_)
          simp only [List.setIfInBounds_toArray, List.set_cons_succ, List.set_cons_zero, noOp]
          generalize w2.drew = DW at *
          refine wpAnyH_take (i := 0) (v := ?vm2_0) (by simp only [List.getElem?_toArray, List.getElem?_cons_succ, List.getElem?_cons_zero]; rfl) (by kernel_rfl) (by kernel_rfl) (by kernel_rfl) (by exact fun _ _ _ h => h) (Or.inl ⟨by rfl, ?ym2_0⟩) (by assumption) ?rm2_0
          case ym2_0 => (intro w hSw; (try dsimp only at hSw); go_simp; (try with_reducible rfl))
          try simp only [Act.put, List.setIfInBounds_toArray, List.set_cons_zero, List.set_cons_succ]
          refine wpAnyH_take (i := 1) (v := ?vm2_1) (by simp only [List.getElem?_toArray, List.getElem?_cons_succ, List.getElem?_cons_zero]; rfl) (by kernel_rfl) (by kernel_rfl) (by kernel_rfl) (by exact fun _ _ _ h => h) (Or.inl ⟨by rfl, ?ym2_1⟩) (by assumption) ?rm2_1
          case ym2_1 => (intro w hSw; (try dsimp only at hSw); go_simp; (try with_reducible rfl))
          try simp only [Act.put, List.setIfInBounds_toArray, List.set_cons_zero, List.set_cons_succ]
          refine wpAnyH_take (i := 2) (v := ?vm2_2) (by simp only [List.getElem?_toArray, List.getElem?_cons_succ, List.getElem?_cons_zero]; rfl) (by kernel_rfl) (by kernel_rfl) (by kernel_rfl) (by exact fun _ _ _ h => h) (Or.inl ⟨by rfl, ?ym2_2⟩) (by assumption) ?rm2_2
          case ym2_2 => (intro w hSw; (try dsimp only at hSw); go_simp; (try with_reducible rfl))
          try simp only [Act.put, List.setIfInBounds_toArray, List.set_cons_zero, List.set_cons_succ]
          refine wpAnyH_take (i := 3) (v := ?vm2_3) (by simp only [List.getElem?_toArray, List.getElem?_cons_succ, List.getElem?_cons_zero]; rfl) (by kernel_rfl) (by kernel_rfl) (by kernel_rfl) (by exact fun _ _ _ h => h) (Or.inl ⟨by rfl, ?ym2_3⟩) (by assumption) ?rm2_3
          case ym2_3 => (intro w hSw; (try dsimp only at hSw); go_simp; (try with_reducible rfl))
          try simp only [Act.put, List.setIfInBounds_toArray, List.set_cons_zero, List.set_cons_succ]
          refine wpAnyH_take (i := 4) (v := ?vm2_4) (by simp only [List.getElem?_toArray, List.getElem?_cons_succ, List.getElem?_cons_zero]; rfl) (by kernel_rfl) (by kernel_rfl) (by kernel_rfl) (by exact fun _ _ _ h => h) (Or.inl ⟨by rfl, ?ym2_4⟩) (by assumption) ?rm2_4
          case ym2_4 => (intro w hSw; (try dsimp only at hSw); go_simp; (try with_reducible rfl))
          try simp only [Act.put, List.setIfInBounds_toArray, List.set_cons_zero, List.set_cons_succ]
          refine wpAnyH_take (i := 5) (v := ?vm2_5) (by simp only [List.getElem?_toArray, List.getElem?_cons_succ, List.getElem?_cons_zero]; rfl) (by kernel_rfl) (by kernel_rfl) (by kernel_rfl) (by exact fun _ _ _ h => h) (Or.inl ⟨by rfl, ?ym2_5⟩) (by assumption) ?rm2_5
          case ym2_5 => (intro w hSw; (try dsimp only at hSw); go_simp; (try with_reducible rfl))
          try simp only [Act.put, List.setIfInBounds_toArray, List.set_cons_zero, List.set_cons_succ]
          refine wpAnyH_take (i := 6) (v := ?vm2_6) (by simp only [List.getElem?_toArray, List.getElem?_cons_succ, List.getElem?_cons_zero]; rfl) (by kernel_rfl) (by kernel_rfl) (by kernel_rfl) (by exact fun _ _ _ h => h) (Or.inl ⟨by rfl, ?ym2_6⟩) (by assumption) ?rm2_6
          case ym2_6 => (intro w hSw; (try dsimp only at hSw); go_simp; (try with_reducible rfl))
          try simp only [Act.put, List.setIfInBounds_toArray, List.set_cons_zero, List.set_cons_succ]
          refine wpAnyH_take (i := 7) (v := ?vm2_7) (by simp only [List.getElem?_toArray, List.getElem?_cons_succ, List.getElem?_cons_zero]; rfl) (by kernel_rfl) (by kernel_rfl) (by kernel_rfl) (by exact fun _ _ _ h => h) (Or.inl ⟨by rfl, ?ym2_7⟩) (by assumption) ?rm2_7
          case ym2_7 => (intro w hSw; (try dsimp only at hSw); go_simp; (try with_reducible rfl))
          try simp only [Act.put, List.setIfInBounds_toArray, List.set_cons_zero, List.set_cons_succ]
          refine wpAnyH_done (by kernel_rfl) ?_ _
          show Oper.wp _ _ _ _ _ _
          go_simp
          all_goals (go_wp2_with fail)
          all_goals first | omega | skip
          all_goals go_roundw
          all_goals first
            | exact ⟨j + 1, nb' + 1, by omega, by omega, by go_num, by first | exact hnx.out _ hF6.out | exact hF6, ho6⟩
            | (simp [intOf]; omega)
        | false =>
          have hnx := Hid.intro (hnot.out hpq nb')
          clear hnot hyes hB
          go_wp2_with (go_at_call 43; (with_reducible refine (h43.out).mono ?_); rintro e w2 ⟨rfl, hb2⟩; have hF2 := Hid.intro (hnx.out _ (hF1.out.below hb2)); have ho2 := Hid.intro ((hb2.block _ (wblk_lt ho1.out)).trans ho1.out); clear hb2)
          all_goals first | omega | skip
          go_roundw
          case rel => exact ⟨j + 1, nb', by omega, by omega, by go_num, hF2, ho2⟩
          case measure => simp [intOf]; omega
    · obtain rfl : j = n0 := by omega
      obtain ⟨a2, k2, c2, hk2, r4, r5, hsrc, hsz, hgo⟩ := hfin.out nb' wr hF.out ho.out
      have y4 := (Joins.cell_of_block r4 0).trans rfl
      have y0 := (Joins.cell_of_block ho.out 0).trans rfl
      have hr5 := Hid.intro r5
      have hsr := Hid.intro hsrc
      have hgo' := Hid.intro hgo
      have hone : Hid (∀ u ∈ rowN ring, u.oneCell' = true) := fun u hu => by
        unfold rowN at hu
        obtain ⟨x, _, rfl⟩ := List.mem_map.1 hu
        rfl
      have hrl : Hid ((rowN ring).length = j * 1) := by show _ = _; rw [rowN_len, hnl0.out, Nat.mul_one]
      clear hF ho r4 r5 hsrc hgo hgetH hleq hpA hpB hfin hnl0
      have hjm : j = m0 - frm := hn1.1
      rw [hjm] at hsr hrl hgo'
      go_wp2_with (at_builtin; go_must (refine wpList_app rfl (.tmp 40) (.tmp 41) 65 rfl w0.heap.size 3 i3 _ 1 8 Try.underlying65 hi3 hz0 hz1 hz2 rfl (by decide) (.slice a2 k2 c2) k2 (rowN s.order) rfl hr5.out (.slice (some ⟨g, frm, none⟩) (m0 - frm) (c - frm)) (m0 - frm) (rowN ring) rfl hsr.out hrl.out hone.out (by unfold maxLen; omega) (by omega) hsz ?_; intro v4 w4 ho4 hg4 hw4; obtain ⟨a3, c3, rfl⟩ := own_slice ho4; obtain ⟨e1, e2, e3⟩ := hgo'.out a3 c3 w4 ho4 hg4 hw4; have z4 := (Joins.cell_of_block e1 0).trans rfl; have zf := frozen_of_row w4 (b 4) 0 _ 65 e1; have z0 := (Joins.cell_of_block e2 0).trans rfl; have zf0 := frozen_of_row _ (b 0) 0 _ 65 e2; replace e3 := Hid.intro e3; clear ho4 hg4 hw4))
      all_goals first | omega | skip
      go_end0
      exact ⟨rfl, nb', by have := hm0.out; omega, e3.out⟩
end
end Go.Proofs.Ytebbbefknfldoaa
/- Where names lead: plain facts on equ.walk. -/
namespace Go.Proofs.Ytebbbefknfldoaa
set_option linter.unusedVariables false
set_option linter.unusedSimpArgs false
set_option maxRecDepth 100000
def atF (l : List Eqv) : List UInt8 → Option Int := backF l (List.range l.length)
def adjF (l : List Eqv) (i : Nat) : List Nat := match l[i]? with | some q => q.2.terms.filterMap fun t => (atF l t.name).map Int.toNat | none => []
theorem fold_some (l : List Eqv) : ∀ (bs : List Nat) (g : List UInt8 → Option Int) (x : List UInt8) (z : Int), bs.foldl (fun f i => fun x => if x = nmOf l i then some (i : Int) else f x) g x = some z → (∃ i ∈ bs, z = (i : Int) ∧ nmOf l i = x) ∨ g x = some z
  | [], g, x, z, h => .inr h
  | i :: bs, g, x, z, h => by
    rcases fold_some l bs _ x z h with ⟨k, h1, h2⟩ | h1
    · exact .inl ⟨k, by simp [h1], h2⟩
    · dsimp only at h1
      split at h1
      · next hx => cases h1; exact .inl ⟨i, by simp, rfl, hx.symm⟩
      · exact .inr h1
theorem fold_none (l : List Eqv) : ∀ (bs : List Nat) (g : List UInt8 → Option Int) (x : List UInt8), bs.foldl (fun f i => fun x => if x = nmOf l i then some (i : Int) else f x) g x = none → g x = none ∧ ∀ i ∈ bs, nmOf l i ≠ x
  | [], g, x, h => ⟨h, fun i hi => by cases hi⟩
  | i :: bs, g, x, h => by
    obtain ⟨h1, h2⟩ := fold_none l bs _ x h
    dsimp only at h1
    split at h1
    · cases h1
    · next hx =>
      refine ⟨h1, fun k hk => ?_⟩
      rcases List.mem_cons.1 hk with rfl | hk
      · exact fun e => hx e.symm
      · exact h2 k hk
theorem backF_some (l : List Eqv) (bs : List Nat) (x : List UInt8) (z : Int) (h : backF l bs x = some z) : ∃ i ∈ bs, z = (i : Int) ∧ nmOf l i = x := by
  rcases fold_some l bs _ x z h with h1 | h1
  · exact h1
  · cases h1
theorem backF_none (l : List Eqv) (bs : List Nat) (x : List UInt8) (h : backF l bs x = none) : ∀ i ∈ bs, nmOf l i ≠ x := (fold_none l bs _ x h).2
theorem nmOf_get {l : List Eqv} {i : Nat} {q : Eqv} (h : l[i]? = some q) : nmOf l i = q.1 := by unfold nmOf; rw [h]; rfl
theorem nm_inj {l : List Eqv} (hnd : (l.map (·.1)).Nodup) {i j : Nat} (hi : i < l.length) (hj : j < l.length) (h : nmOf l i = nmOf l j) : i = j := by
  rw [nmOf_get (List.getElem?_eq_getElem hi), nmOf_get (List.getElem?_eq_getElem hj)] at h
  have h1 : (l.map (·.1))[i]'(by simpa using hi) = (l.map (·.1))[j]'(by simpa using hj) := by simpa using h
  have hp := List.pairwise_iff_getElem.1 hnd
  rcases Nat.lt_trichotomy i j with h2 | h2 | h2
  · exact absurd h1 (hp i j _ _ h2)
  · exact h2
  · exact absurd h1.symm (hp j i _ _ h2)
theorem atF_is {l : List Eqv} (hnd : (l.map (·.1)).Nodup) {i : Nat} (hi : i < l.length) : atF l (nmOf l i) = some (i : Int) := by
  cases h : atF l (nmOf l i) with
  | none => exact absurd rfl (backF_none l _ _ h i (List.mem_range.2 hi))
  | some z =>
    obtain ⟨k, h1, h2, h3⟩ := backF_some l _ _ z h
    rw [h2, nm_inj hnd (List.mem_range.1 h1) hi h3]
theorem atF_some {l : List Eqv} {x : List UInt8} {z : Int} (h : atF l x = some z) : ∃ i, i < l.length ∧ z = (i : Int) ∧ nmOf l i = x := by
  obtain ⟨k, h1, h2, h3⟩ := backF_some l _ _ z h
  exact ⟨k, List.mem_range.1 h1, h2, h3⟩
theorem adj_lt (l : List Eqv) : ∀ v, ∀ u ∈ adjF l v, u < l.length := by
  intro v u hu
  unfold adjF at hu
  split at hu
  · obtain ⟨t, _, ht⟩ := List.mem_filterMap.1 hu
    cases ha : atF l t.name with
    | none => rw [ha] at ht; cases ht
    | some z =>
      rw [ha] at ht
      obtain ⟨i, h1, h2, _⟩ := atF_some ha
      simp at ht
      omega
  · cases hu
theorem self_adj {l : List Eqv} (hnd : (l.map (·.1)).Nodup) : ∀ v, selfF l v = true ↔ v ∈ adjF l v := by
  intro v
  unfold selfF adjF
  cases hq : l[v]? with
  | none => simp
  | some q =>
    have hv : v < l.length := (List.getElem?_eq_some_iff.1 hq).1
    dsimp only
    rw [List.mem_filterMap]
    unfold inT
    rw [List.any_eq_true]
    constructor
    · rintro ⟨t, h1, h2⟩
      refine ⟨t, h1, ?_⟩
      have h3 : t.name = nmOf l v := (of_decide_eq_true h2).trans (nmOf_get hq).symm
      rw [h3, atF_is hnd hv]
      simp
    · rintro ⟨t, h1, h2⟩
      refine ⟨t, h1, decide_eq_true ?_⟩
      cases ha : atF l t.name with
      | none => rw [ha] at h2; cases h2
      | some z =>
        rw [ha] at h2
        obtain ⟨i, h3, h4, h5⟩ := atF_some ha
        simp at h2
        have : i = v := by omega
        rw [← h5, this]
        exact nmOf_get hq
theorem walk_right {l : List Eqv} (hnd : (l.map (·.1)).Nodup) (hl : l.length < Ta.big) : (∀ v, v ∈ (Ta.walkF (adjF l) (selfF l) l.length).order ↔ v < l.length) ∧ (∀ v, v ∈ (Ta.walkF (adjF l) (selfF l) l.length).back ↔ v < l.length ∧ Ta.Cyc (adjF l) v) ∧ ∀ l1 v l2, (Ta.walkF (adjF l) (selfF l) l.length).order = l1 ++ v :: l2 → (∀ u ∈ adjF l v, u ∈ l1) ∨ Ta.Cyc (adjF l) v :=
  Ta.walk_is hl (adj_lt l) (self_adj hnd)
def Sz (s : Ta.St) : Prop := s.opn.length + s.order.length ≤ s.count
theorem sz_fin {self : Nat → Bool} {k : Nat} {s : Ta.St} (h : Sz s) : Sz (Ta.finishF self k s) := by
  unfold Sz Ta.finishF at *
  simp
  omega
theorem sz_visit (adj : Nat → List Nat) (self : Nat → Bool) : ∀ (f i : Nat) (s : Ta.St), Sz s → Sz (Ta.visitF adj self f i s).2
  | 0, i, s, h => h
  | f + 1, i, s, h => by
    have hb : Sz (Ta.beginF i s) := by unfold Sz Ta.beginF at *; simp; omega
    have hl : ∀ (l : List Nat) (a : Nat × Ta.St), Sz a.2 → Sz (l.foldl (Ta.stepF (Ta.visitF adj self f)) a).2 := by
      intro l
      induction l with
      | nil => intro a ha; exact ha
      | cons t l ih =>
        intro a ha
        refine ih _ ?_
        unfold Ta.stepF
        split
        · exact sz_visit adj self f t a.2 ha
        · exact ha
    have h2 := hl (adj i) (s.count + 1, Ta.beginF i s) hb
    show Sz (Ta.endF self (s.count + 1) s.opn.length _).2
    unfold Ta.endF
    split
    · exact sz_fin h2
    · exact h2
end Go.Proofs.Ytebbbefknfldoaa
namespace Go.Proofs.Ytebbbefknfldoaa
open Go.ChangeShapes Go.WideShapes Go.ChangeAt Go.RowKit
set_option linter.unusedVariables false
set_option linter.unusedSimpArgs false
set_option maxRecDepth 100000
section
variable {w0 : World} {b : Nat → Nat} {l : List Eqv} {la : Option Addr} {lc na : Nat}
def adjP (l : List Eqv) (ts : List Tm) (k : Nat) : List Nat := (ts.take k).filterMap fun t => (atF l t.name).map Int.toNat
theorem adjP_none {ts : List Tm} {k : Nat} {t : Tm} (ht : ts[k]? = some t) (h : atF l t.name = none) : adjP l ts (k + 1) = adjP l ts k := by
  unfold adjP
  rw [List.take_add_one, ht, List.filterMap_append]
  simp [h]
theorem adjP_some {ts : List Tm} {k : Nat} {t : Tm} {z : Int} (ht : ts[k]? = some t) (h : atF l t.name = some z) : adjP l ts (k + 1) = adjP l ts k ++ [z.toNat] := by
  unfold adjP
  rw [List.take_add_one, ht, List.filterMap_append]
  simp [h]
structure VL (w0 : World) (b : Nat → Nat) (l : List Eqv) (la : Option Addr) (lc na : Nat) (f i : Nat) (s : Ta.St) (ts : List Tm) (k nb : Nat) (a : Nat × Ta.St) (W : World) : Prop where
  is : a = (adjP l ts k).foldl (Ta.stepF (Ta.visitF (adjF l) (selfF l) f)) (s.count + 1, Ta.beginF i s)
  fs : FS w0 b l la lc na nb a.2 W
  lp : ∃ tail, Ta.Lp (adjF l) l.length i s a tail (adjP l ts k)
  sz : Sz a.2
  nb : nb ≤ a.2.order.length
theorem VL.reach {f i : Nat} {s : Ta.St} {ts : List Tm} {k nb : Nat} {a : Nat × Ta.St} {W : World} (h : VL w0 b l la lc na f i s ts k nb a W) (hi : ∀ v ∈ s.opn, Ta.Rch (adjF l) v i) {t : Nat} (ht : t ∈ adjF l i) : ∀ v ∈ a.2.opn, Ta.Rch (adjF l) v t := by
  obtain ⟨tail, L⟩ := h.lp
  intro v hv
  rw [L.opn] at hv
  rcases List.mem_append.1 hv with h1 | h1
  · exact (hi v h1).trans (.one ht)
  · rcases List.mem_cons.1 h1 with rfl | h1
    · exact .one ht
    · exact (L.tl v h1).1.trans (.one ht)
theorem VL.go {f i : Nat} {s : Ta.St} {ts : List Tm} {k nb nb2 : Nat} {a : Nat × Ta.St} {W W2 : World} (h : VL w0 b l la lc na f i s ts k nb a W) (hn : l.length < Ta.big) (hnd : (l.map (·.1)).Nodup) (hS : Ta.Inv (adjF l) l.length s) (hi : ∀ v ∈ s.opn, Ta.Rch (adjF l) v i) (hf : Ta.left l.length s.met ≤ f + 1)
    {t : Nat} (ht : t ∈ adjF l i) (hk : adjP l ts (k + 1) = adjP l ts k ++ [t]) (hF : FS w0 b l la lc na nb2 (Ta.stepF (Ta.visitF (adjF l) (selfF l) f) a t).2 W2) (hnb : nb2 ≤ (Ta.stepF (Ta.visitF (adjF l) (selfF l) f) a t).2.order.length) : VL w0 b l la lc na f i s ts (k + 1) nb2 (Ta.stepF (Ta.visitF (adjF l) (selfF l) f) a t) W2 := by
  obtain ⟨tail, L⟩ := h.lp
  obtain ⟨t2, L2⟩ := L.step (self := selfF l) hn (adj_lt l) hS hi ht (Ta.visit_is hn (adj_lt l) (self_adj hnd) f) hf
  refine ⟨by rw [hk, List.foldl_append, ← h.is]; rfl, hF, ⟨t2, by rw [hk]; exact L2⟩, ?_, hnb⟩
  unfold Ta.stepF
  split
  · exact sz_visit _ _ f t a.2 h.sz
  · exact h.sz
theorem VL.stay {f i : Nat} {s : Ta.St} {ts : List Tm} {k nb : Nat} {a : Nat × Ta.St} {W W2 : World} (h : VL w0 b l la lc na f i s ts k nb a W) (hk : adjP l ts (k + 1) = adjP l ts k) (hb : Below W.heap.size W W2) : VL w0 b l la lc na f i s ts (k + 1) nb a W2 :=
  ⟨by rw [hk]; exact h.is, h.fs.below hb, by rw [hk]; exact h.lp, h.sz, h.nb⟩
theorem VL.below {f i : Nat} {s : Ta.St} {ts : List Tm} {k nb : Nat} {a : Nat × Ta.St} {W W2 : World} (h : VL w0 b l la lc na f i s ts k nb a W) (hb : Below W.heap.size W W2) : VL w0 b l la lc na f i s ts k nb a W2 :=
  ⟨h.is, h.fs.below hb, h.lp, h.sz, h.nb⟩
end
end Go.Proofs.Ytebbbefknfldoaa
