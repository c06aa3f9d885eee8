/- A book of lists of terms: Keep. -/
import Derived.Test.YtebbbefknfldoaaBtA
import Derived.Deep.RegionLaw
import Derived.Deep.DeepCutAuto
namespace Go.Proofs.Ytebbbefknfldoaa.Bk
open Go.ChangeShapes Go.WideShapes Go.ChangeAt Go.RowKit
set_option linter.unusedVariables false
set_option maxRecDepth 100000
theorem BR.far1 {w : World} {B : Nat} {vs1 vs2 : List Value} {n1 n2 : Nat} {a1 a2 : Option Addr} {c1 c2 : Nat} {held : Int} (h : BR w B vs1 vs2 n1 n2 a1 a2 c1 c2 held) {w' : World} (hg : w.grownBy w' (blk a1)) (i : Nat) :
    w'.cell? ⟨B, i, none⟩ = w.cell? ⟨B, i, none⟩ ∧ w'.frozen? ⟨B, i, none⟩ = false := by
  have hne : some B ≠ blk a1 := fun e => by have := (h.o1.lt e.symm).1; omega
  exact ⟨hg.cell_far _ h.lt hne, by rw [hg.frozen_far _ h.lt hne]; exact h.fz i⟩
theorem BR.far2 {w : World} {B : Nat} {vs1 vs2 : List Value} {n1 n2 : Nat} {a1 a2 : Option Addr} {c1 c2 : Nat} {held : Int} (h : BR w B vs1 vs2 n1 n2 a1 a2 c1 c2 held) {w' : World} (hg : w.grownBy w' (blk a2)) (i : Nat) :
    w'.cell? ⟨B, i, none⟩ = w.cell? ⟨B, i, none⟩ ∧ w'.frozen? ⟨B, i, none⟩ = false := by
  have hne : some B ≠ blk a2 := fun e => by have := (h.o2.lt e.symm).1; omega
  exact ⟨hg.cell_far _ h.lt hne, by rw [hg.frozen_far _ h.lt hne]; exact h.fz i⟩
theorem drew_grown {w w' : World} {r : Option Nat} (h : w.drew.grownBy w' r) : w.grownBy w' r := ⟨h.os, h.tape, h.output, h.size, h.block⟩
theorem lies_drew {w : World} {a : Option Addr} {ts : List Tm} (h : TmLies w a ts) (n : Nat) : TmLies (w.drewN n) a ts := h.belowM (below_drewN (Below.refl w.heap.size w) n)
theorem mid_rel {w w2 w3 w4 : World} {B n1 n : Nat} {us1 vs2 : List Value} {zs : List Tm} {wa : Option Addr} {wc : Nat} {a1 a2 a2' : Option Addr} {c1 c2 c2' : Nat} {held : Int} {o : Obj} (h : BR w2 B us1 vs2 n1 n a1 a2 c1 c2 held)
    (hown3 : OwnT w3 w2.heap.size wa wc zs) (hgrow3 : w2.grownBy w3 none)
    (hO2 : Outer w4 (B + 1) a2' c2' (vs2 ++ [.slice wa zs.length wc])) (hG2 : (w3.alloc o).grownBy w4 (blk a2)) (hN2 : ∀ g, blk a2' = some g → blk a2 = some g ∨ (w3.alloc o).heap.size ≤ g) (k2 : K5 w w2) (hb2 : Below B w w2) :
    ∃ b2 d2 wa wc, BR (w4.setCell ⟨B, 1, none⟩ (.slice a2' (n + 1) c2')) B us1 (vs2 ++ [.slice wa zs.length wc]) n1 (n + 1) a1 b2 c1 d2 held ∧ OwnT (w4.setCell ⟨B, 1, none⟩ (.slice a2' (n + 1) c2')) (B + 1) wa wc zs ∧ K5 w (w4.setCell ⟨B, 1, none⟩ (.slice a2' (n + 1) c2')) ∧ Below B w (w4.setCell ⟨B, 1, none⟩ (.slice a2' (n + 1) c2')) := by
  have hst : ∀ k, k < w2.heap.size → w3.heap[k]? = w2.heap[k]? := fun k hk => hgrow3.block k hk (by simp)
  have h3 := h.kept (w' := w3) hst
  have h4 := h3.alloc o
  have hB := h.lt
  have hfin := h4.app2 hO2 hG2 hN2
  have k3 : K5 w2 w3 := fun k T cur hT hk => hst k (Array.getElem?_eq_some_iff.1 hk).1
  have k4 : K5 w3 (w4.setCell ⟨B, 1, none⟩ (.slice a2' (n + 1) c2')) := (K5.alloc w3 o).trans ((K5.grown h4.o2 hG2).trans (K5.set (by rw [hG2.block B h4.lt (fun e => by have := (h4.o2.lt e.symm).1; omega)]; exact h4.blkB) (by decide) _ _))
  have hgot : OwnT w3 (B + 1) wa wc zs := hown3.mono (by omega)
  have hb3 : Below B w2 w3 := ⟨hgrow3.os, hgrow3.tape, hgrow3.output, hgrow3.size, fun k hk => hst k (by omega)⟩
  have hb4 : Below B w3 (w4.setCell ⟨B, 1, none⟩ (.slice a2' (n + 1) c2')) := (((Below.refl B w3).alloc (by have := h3.lt; omega) o).grown hG2 (by have := h4.lt; omega) (fun k hk => by have := (h4.o2.lt hk).1; omega)).setCell (Nat.le_refl _) _
  exact ⟨a2', c2', wa, wc, hfin, hgot.kept k4, k2.trans (k3.trans k4), hb2.trans (hb3.trans hb4)⟩
theorem BR.five {w : World} {B m G1 o1 G2 o2 d1 d2 : Nat} {v1 v2 : Value} {us1 us2 : List Value} {hd : Int} (h : BR w B (v1 :: us1) (v2 :: us2) (m + 1) (m + 1) (some ⟨G1, o1, none⟩) (some ⟨G2, o2, none⟩) d1 d2 hd) :
    w.cell? ⟨B, 3, none⟩ = some (.bool false) ∧ w.cell? ⟨B, 0, none⟩ = some (.slice (some ⟨G1, o1, none⟩) (m + 1) d1) ∧ w.cell? ⟨B, 1, none⟩ = some (.slice (some ⟨G2, o2, none⟩) (m + 1) d2) ∧ w.cell? ⟨G1, o1, none⟩ = some v1 ∧ w.cell? ⟨G2, o2, none⟩ = some v2 := by
  have p1 := h.o1.cell (a := none) 0 (by simp)
  have p2 := h.o2.cell (a := none) 0 (by simp)
  simp only [List.getElem?_cons_zero, Nat.add_zero] at p1 p2
  exact ⟨h.q3, h.q0, h.q1, p1, p2⟩
theorem BR.drewN {w : World} {B n1 n2 : Nat} {vs1 vs2 : List Value} {a1 a2 : Option Addr} {c1 c2 : Nat} {hd : Int} (h : BR w B vs1 vs2 n1 n2 a1 a2 c1 c2 hd) (q : Nat) : BR (w.drewN q) B vs1 vs2 n1 n2 a1 a2 c1 c2 hd := h.kept fun k _ => rfl
theorem K5.drewN (w : World) (q : Nat) : K5 w (w.drewN q) := fun _ _ _ _ _ => rfl
def BS (w : World) (B : Nat) (es : List Ent) (a1 a2 : Option Addr) (c1 c2 : Nat) (held : Int) : Prop :=
  BR w B (es.map Ent.val) (es.map Ent.wal) es.length es.length a1 a2 c1 c2 held ∧ ∀ e ∈ es, Entry w B e
theorem cut_k5 {wc : World} {B gk n2 G1 o1 d1 d2 : Nat} {v1 : Value} {us1 vs2 : List Value} {a2 : Option Addr} {hx : Int} {V0 V1 : Value} (h : BR wc B (v1 :: us1) vs2 (gk + 1) n2 (some ⟨G1, o1, none⟩) a2 d1 d2 hx) :
    K5 wc ((wc.setCell ⟨B, 0, none⟩ V0).setCell ⟨B, 1, none⟩ V1) :=
  (K5.set h.blkB (by decide) _ _).trans (K5.set (heap_setCell_same wc B 0 _ 61 V0 h.blkB) (by decide) _ _)
theorem cut_end {wr wc : World} {B gk G1 o1 G2 o2 d1 d2 j : Nat} {e0 : Ent} {r es1 : List Ent} {us1 us2 : List Value} {hx : Int} (h : BR wc B (e0.val :: us1) (e0.wal :: us2) (gk + 1) (gk + 1) (some ⟨G1, o1, none⟩) (some ⟨G2, o2, none⟩) d1 d2 hx)
    (hE : ∀ e ∈ e0 :: r, Entry wr B e) (k5 : K5 wr wc) (hu1 : us1 = r.map Ent.val) (hu2 : us2 = r.map Ent.wal) (hes : es1.drop j = e0 :: r) :
    BS ((wc.setCell ⟨B, 0, none⟩ (.slice (some ⟨G1, o1 + 1, none⟩) gk (d1 - 1))).setCell ⟨B, 1, none⟩ (.slice (some ⟨G2, o2 + 1, none⟩) gk (d2 - 1))) B (es1.drop (j + 1)) (some ⟨G1, o1 + 1, none⟩) (some ⟨G2, o2 + 1, none⟩) (d1 - 1) (d2 - 1) hx := by
  have e : es1.drop (j + 1) = r := by
    have := congrArg List.tail hes
    rw [List.tail_drop] at this
    simpa using this
  have hl : r.length = gk := by
    have := h.l1
    rw [hu1] at this
    simpa using this
  rw [e]
  refine ⟨?_, fun e he => (hE e (by simp [he])).kept (k5.trans (cut_k5 h))⟩
  rw [hl, ← hu1, ← hu2]
  exact (h.cut1).cut2
def KeptMore (w w' : World) (B : Nat) (es : List Ent) (a0 : Option Addr) (cap : Nat) (zs : List Tm) : Prop :=
  ∃ wa wc j a1 a2 c1 c2 held, j ≤ es.length ∧ BS w' B ((es ++ [Ent.mk a0 cap zs wa wc]).drop j) a1 a2 c1 c2 held ∧ K5 w w' ∧ Below B w w'
set_option maxRecDepth 100000 in
set_option maxHeartbeats 1600000 in
theorem keep_any (B cap : Nat) (a0 : Option Addr) (zs : List Tm) (es : List Ent) (a1 a2 : Option Addr) (c1 c2 : Nat) (held : Int) (w : World)
    (hS : BS w B es a1 a2 c1 c2 held) (hn : es.length ≤ 1000) (hr : OwnT w (B + 1) a0 cap zs) (hzm : zs.length ≤ 9000000) (hcapm : cap ≤ 9223372036854775807) :
    Calls Try.prog 25 #[.pointer (some ⟨B, 0, none⟩), .slice a0 zs.length cap] w fun e w' => e = .returned (.tuple #[]) ∧ KeptMore w w' B es a0 cap zs := by
  obtain ⟨h, hE⟩ := hS
  obtain ⟨n, hne⟩ : ∃ n, n = es.length := ⟨_, rfl⟩
  obtain ⟨vs1, hv1⟩ : ∃ vs1, vs1 = es.map Ent.val := ⟨_, rfl⟩
  obtain ⟨vs2, hv2⟩ : ∃ vs2, vs2 = es.map Ent.wal := ⟨_, rfl⟩
  rw [← hne, ← hv1, ← hv2] at h
  rw [← hne] at hn
  have HV : Hid (n = es.length ∧ vs1 = es.map Ent.val ∧ vs2 = es.map Ent.wal ∧ ∀ e ∈ es, Entry w B e) := ⟨hne, hv1, hv2, hE⟩
  clear hne hv1 hv2 hE
  have q0 := h.q0
  have f0 := h.fz 0
  have hl1 := h.l1
  obtain ⟨o26, ho26⟩ : ∃ o26 : Obj, o26 = .cells #[.slice a0 zs.length cap] 26 := ⟨_, rfl⟩
  have hA := h.alloc o26
  have Hh : Hid (BR (w.alloc o26) B vs1 vs2 n n a1 a2 c1 c2 held) := hA
  have ho1 := hA.o1
  have hBs := h.lt
  have qA := hA.q0
  subst ho26
  clear hA
  go_enter Try.func25, Try.ntmps25
  go_wp2_with (first
    | (at_builtin; go_must (refine wpList_outer _ rfl (.tmp 8) (.tmp 10) rfl (B + 1) a1 c1 n vs1 (.slice a0 zs.length cap) w.heap.size rfl rfl hl1 ho1 (by simp) rfl (by omega) (by simp; omega) ?_); intro a1' c1' w1 hO1 hG1 hN1; have qw := (Hh.out.far1 hG1 0).1; have fw := (Hh.out.far1 hG1 0).2; rw [Hh.out.q0] at qw))
  have hBR := Hh.out.app1 hO1 hG1 hN1
  have hb2 : Below B w (w1.setCell ⟨B, 0, none⟩ (.slice a1' (n + 1) c1')) := (((Below.refl B w).alloc (by omega) _).grown hG1 (by simp; omega) (fun k hk => by have := (ho1.lt hk).1; omega)).setCell (Nat.le_refl _) _
  have k2 : K5 w (w1.setCell ⟨B, 0, none⟩ (.slice a1' (n + 1) c1')) := (K5.alloc w _).trans ((K5.grown ho1 hG1).trans (K5.set (by rw [hG1.block B (by simp; omega) (fun e => by have := (ho1.lt e.symm).1; omega)]; exact Hh.out.blkB) (by decide) _ _))
  clear qw fw hO1 hG1 hN1 qA q0 f0 hl1 ho1 Hh h
  generalize (w1.setCell ⟨B, 0, none⟩ (.slice a1' (n + 1) c1')) = w2 at hBR hb2 k2 ⊢
  clear w1
  have hr2 := hr.kept k2
  have hB2 := hBR.lt
  have q1 := hBR.q1
  have hl2 := hBR.l2
  have HB : Hid (BR w2 B (vs1 ++ [.slice a0 zs.length cap]) vs2 (n + 1) n a1' a2 c1' c2 held) := hBR
  clear hBR
  have HN : Hid (OwnT w2 (B + 1) a0 cap zs) := hr2
  clear hr2
  go_cut [] (fun wx => ∃ a2' c2' wa wc, BR wx B (vs1 ++ [.slice a0 zs.length cap]) (vs2 ++ [.slice wa zs.length wc]) (n + 1) (n + 1) a1' a2' c1' c2' held ∧ OwnT wx (B + 1) wa wc zs ∧ K5 w wx ∧ Below B w wx)
  case first =>
    go_region_law (first | (refine step_copy _ (by rfl) (.const (.slice none 0 0)) (.tmp 19) (by rfl) (B + 1) a0 cap zs (by rfl) (by rfl) HN.out (by omega) ?_; intro wa3 wc3 w3 hown3 hgrow3; have q3 := BR.q1 (HB.out.kept (w' := w3) (fun k hk => hgrow3.block k hk (by simp))); have q3a := fun o => BR.q1 ((HB.out.kept (w' := w3) (fun k hk => hgrow3.block k hk (by simp))).alloc o)) | (refine step_outer _ (by rfl) (.tmp 18) (.tmp 21) (by rfl) (B + 1) a2 c2 n vs2 (.slice wa3 zs.length wc3) w3.heap.size (by rfl) (by rfl) hl2 ((HB.out.kept (w' := w3) (fun k hk => hgrow3.block k hk (by simp))).alloc _).o2 (by simp) rfl (by omega) (by have : w2.heap.size ≤ w3.heap.size := hgrow3.size; simp; omega) ?_; intro a2' c2' w4 hO2 hG2 hN2; have qw4 := (BR.far2 ((HB.out.kept (w' := w3) (fun k hk => hgrow3.block k hk (by simp))).alloc _) hG2 1).1.trans (BR.q1 ((HB.out.kept (w' := w3) (fun k hk => hgrow3.block k hk (by simp))).alloc _)); have fw4 := (BR.far2 ((HB.out.kept (w' := w3) (fun k hk => hgrow3.block k hk (by simp))).alloc _) hG2 1).2))
    all_goals (go_wp2_with fail; go_meet)
    all_goals exact mid_rel HB.out hown3 (drew_grown hgrow3) hO2 hG2 hN2 k2 hb2
  case rest =>
    obtain ⟨a2', c2', wa, wp, hBR, hgot, k3, hb3⟩ := hcut
    obtain ⟨hne, hv1, hv2, hE⟩ := HV.out
    obtain ⟨es1, hes1⟩ : ∃ es1, es1 = es ++ [Ent.mk a0 cap zs wa wp] := ⟨_, rfl⟩
    have hS1 : BS wc B es1 a1' a2' c1' c2' held := by
      refine ⟨?_, ?_⟩
      · rw [hes1, List.map_append, List.map_append, ← hv1, ← hv2, List.length_append, ← hne]
        exact hBR
      · intro e he
        rw [hes1] at he
        rcases List.mem_append.1 he with he | he
        · exact (hE e he).kept k3
        · simp at he
          subst he
          exact ⟨hr.kept k3, hgot, hzm⟩
    have hlen1 : es1.length = n + 1 := by rw [hes1]; simp [hne]
    have HE : Hid (es1 = es ++ [Ent.mk a0 cap zs wa wp] ∧ es1.length = n + 1 ∧ n = es.length) := ⟨hes1, hlen1, hne⟩
    have q2 := hBR.q2
    have f2 := hBR.fz 2
    have hS2 : ∀ x, BS (wc.setCell ⟨B, 2, none⟩ (.int .i64 x)) B es1 a1' a2' c1' c2' x := fun x => ⟨hS1.1.set2 x, fun e he => (hS1.2 e he).kept (K5.set hBR.blkB (by decide) _ _)⟩
    have k4 : ∀ x, K5 w (wc.setCell ⟨B, 2, none⟩ (.int .i64 x)) := fun x => k3.trans (K5.set hBR.blkB (by decide) _ _)
    have hb4 : ∀ x, Below B w (wc.setCell ⟨B, 2, none⟩ (.int .i64 x)) := fun x => hb3.setCell (Nat.le_refl _) _
    clear hes1 hlen1 hne hv1 hv2 hE HV hBR hS1 k3 hb3 hgot k2 hb2 HB HN hl2 q1
    go_wp2
    go_loopg [] n (fun k wr => ∃ j a1 a2 c1 c2 hd, j + k = n ∧ BS wr B (es1.drop j) a1 a2 c1 c2 hd ∧ K5 w wr ∧ Below B w wr)
    case atStart => exact ⟨0, _, _, _, _, _, by omega, hS2 _, k4 _, hb4 _⟩
    case round =>
      obtain ⟨j, b1, b2, d1, d2, hd, hjk, hS, hk5, hbel⟩ := hrel
      clear hS2 k4 hb4 q2 f2
      obtain ⟨ls, hls⟩ : ∃ ls, ls = es1.drop j := ⟨_, rfl⟩
      obtain ⟨m, hme⟩ : ∃ m, m = ls.length := ⟨_, rfl⟩
      have hm1 : m = gk + 1 := by rw [hme, hls, List.length_drop, HE.out.2.1]; omega
      rw [← hls] at hS
      have hR := hS.1
      rw [← hme] at hR
      have HF : Hid (ls = es1.drop j ∧ m = ls.length ∧ m = gk + 1 ∧ j + gk = n ∧ BS wr B ls b1 b2 d1 d2 hd) := ⟨hls, hme, hm1, hjk, hS⟩
      have q0 := hR.q0
      have q2 := hR.q2
      have hm100 : m ≤ 1001 := by omega
      have hfin : KeptMore w wr B es a0 cap zs := ⟨wa, wp, j, b1, b2, d1, d2, hd, by have := HE.out.2.2; omega, by rw [← HE.out.1, ← hls]; exact hS, hk5, hbel⟩
      have HK : Hid (KeptMore w wr B es a0 cap zs) := hfin
      clear hfin
      by_cases hm : 1 < m
      · by_cases hh : 1000000 < hd
        · subst hm1
          obtain ⟨e0, r, hlr⟩ : ∃ e0 r, ls = e0 :: r := by
            cases ls with
            | nil => simp at hme
            | cons e0 r => exact ⟨e0, r, rfl⟩
          have hEn := hS.2
          clear hS HF HK q0 q2
          rw [hlr] at hR hEn
          obtain ⟨G1, o1, rfl⟩ := hR.o1.some_of (by simp)
          obtain ⟨G2, o2, rfl⟩ := hR.o2.some_of (by simp)
          obtain ⟨us1, hu1⟩ : ∃ us1, us1 = r.map Ent.val := ⟨_, rfl⟩
          obtain ⟨us2, hu2⟩ : ∃ us2, us2 = r.map Ent.wal := ⟨_, rfl⟩
          simp only [List.map_cons] at hR
          rw [← hu1, ← hu2] at hR
          have p1 := hR.o1.cell (a := none) 0 (by simp)
          have p2 := hR.o2.cell (a := none) 0 (by simp)
          have t1 := hR.o1.len_le
          have t2 := hR.o2.len_le
          have s1 := hR.l1
          have s2 := hR.l2
          simp only [List.length_cons] at t1 t2 s1 s2
          simp only [List.getElem?_cons_zero, Nat.add_zero] at p1 p2
          have hE0 := hEn e0 (by simp)
          have hLa : Hid (TmLies wr e0.a e0.zs) := hE0.1.lies
          have hLb : Hid (TmLies wr e0.wa e0.zs) := hE0.2.1.lies
          have hLm : e0.zs.length ≤ 9000000 := by have := hE0.2.2; omega
          have HH : Hid (BR wr B (e0.val :: us1) (e0.wal :: us2) (gk + 1) (gk + 1) (some ⟨G1, o1, none⟩) (some ⟨G2, o2, none⟩) d1 d2 hd ∧ (∀ e ∈ e0 :: r, Entry wr B e) ∧ ls = es1.drop j ∧ ls = e0 :: r ∧ us1 = r.map Ent.val ∧ us2 = r.map Ent.wal ∧ j + gk = n) := ⟨hR, hEn, hls, hlr, hu1, hu2, hjk⟩
          have q0 := hR.q0
          have q1 := hR.q1
          have q2 := hR.q2
          have q3 := hR.q3
          have f3 := hR.fz 3
          have hd1 : 2 ≤ d1 := by omega
          have hd2 : 2 ≤ d2 := by omega
          clear hR hEn hls hlr hu1 hu2 hjk hE0 hme s1 s2
          unfold Ent.val at p1
          unfold Ent.wal at p2
          go_wp2
          go_cut [] (fun wx => BR wx B (e0.val :: us1) (e0.wal :: us2) (gk + 1) (gk + 1) (some ⟨G1, o1, none⟩) (some ⟨G2, o2, none⟩) d1 d2 hd ∧ K5 wr wx ∧ Below B wr wx ∧ wx.cell? ⟨G1, o1, none⟩ = some e0.val)
          case first =>
            go_region_held3 (fun w' => w'.cell? ⟨B, 3, none⟩ = some (.bool false) ∧ w'.cell? ⟨B, 0, none⟩ = some (.slice (some ⟨G1, o1, none⟩) (gk + 1) d1) ∧ w'.cell? ⟨B, 1, none⟩ = some (.slice (some ⟨G2, o2, none⟩) (gk + 1) d2) ∧ w'.cell? ⟨G1, o1, none⟩ = some (.slice e0.a e0.zs.length e0.cap) ∧ w'.cell? ⟨G2, o2, none⟩ = some (.slice e0.wa e0.zs.length e0.wc)) (first | go_keep | exact BR.five (BR.set3 (BR.drewN HH.out.1 _)))
              ((go_at_call 40; refine (same_eq _ _ _ _ e0.zs _ (lies_drew hLa.out 1) (lies_drew hLb.out 1) hLm).mono ?_; rintro e w' ⟨rfl, nq, rfl⟩))
            all_goals (go_wp2_with fail; go_meet)
            all_goals exact ⟨BR.set3 (BR.drewN HH.out.1 _), (K5.drewN _ _).trans (K5.set (BR.drewN HH.out.1 _).blkB (by decide) _ _), Below.setCell (p := ⟨B, 3, none⟩) (below_drewN (Below.refl B wr) _) (Nat.le_refl _) _, (BR.five (BR.set3 (BR.drewN HH.out.1 _))).2.2.2.1⟩
          case rest =>
            obtain ⟨hR4, k54, hb4, p4⟩ := hcut
            have HQ : Hid (BR wc B (e0.val :: us1) (e0.wal :: us2) (gk + 1) (gk + 1) (some ⟨G1, o1, none⟩) (some ⟨G2, o2, none⟩) d1 d2 hd ∧ K5 wr wc ∧ Below B wr wc) := ⟨hR4, k54, hb4⟩
            have q0' := hR4.q0
            have q2' := hR4.q2
            have f2' := hR4.fz 2
            unfold Ent.val at p4
            clear hR4 k54 hb4 q0 q1 q2 q3 f3 p1 p2
            go_wp2
            go_cut [] (fun wx => ∃ hx, BR wx B (e0.val :: us1) (e0.wal :: us2) (gk + 1) (gk + 1) (some ⟨G1, o1, none⟩) (some ⟨G2, o2, none⟩) d1 d2 hx ∧ K5 wr wx ∧ Below B wr wx)
            case first =>
              go_region
              all_goals (go_wp2_with fail; go_meet)
              all_goals exact ⟨_, (BR.set2 HQ.out.1 _).kept (fun k _ => rfl), HQ.out.2.1.trans (K5.set HQ.out.1.blkB (by decide) _ _), (Below.setCell (p := ⟨B, 2, none⟩) HQ.out.2.2 (Nat.le_refl _) _).drew⟩
            case rest =>
              obtain ⟨hx, hR5, k55, hb5⟩ := hcut
              have HP : Hid (BR wc B (e0.val :: us1) (e0.wal :: us2) (gk + 1) (gk + 1) (some ⟨G1, o1, none⟩) (some ⟨G2, o2, none⟩) d1 d2 hx ∧ K5 wr wc ∧ Below B wr wc) := ⟨hR5, k55, hb5⟩
              have r0 := hR5.q0
              have r1 := hR5.q1
              have g0 := hR5.fz 0
              have g1 := hR5.fz 1
              clear hR5 k55 hb5 q0' q2' f2' p4 HQ
              go_wp2
              go_roundg (gk - 1)
              case measure => omega
              case rel =>
                obtain ⟨_, hEn, hls, hlr, hu1, hu2, hjk⟩ := HH.out
                obtain ⟨hR5, k55, hb5⟩ := HP.out
                exact ⟨j + 1, _, _, _, _, hx, by omega, cut_end hR5 hEn k55 hu1 hu2 (hls.symm.trans hlr), hk5.trans (k55.trans (cut_k5 hR5)), hbel.trans (Below.setCell (p := ⟨B, 1, none⟩) (Below.setCell (p := ⟨B, 0, none⟩) hb5 (Nat.le_refl _) _) (Nat.le_refl _) _)⟩
        · clear hls hme hm1 hjk hS
          go_wp2
          go_end0
          exact ⟨rfl, HK.out⟩
      · clear hls hme hm1 hjk hS
        go_wp2
        go_end0
        exact ⟨rfl, HK.out⟩
end Go.Proofs.Ytebbbefknfldoaa.Bk
