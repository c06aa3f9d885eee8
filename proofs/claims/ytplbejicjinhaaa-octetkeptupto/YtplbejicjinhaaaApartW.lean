/- The contract of the book's Apart, over bytes. -/
import Derived.Test.YtplbejicjinhaaaStaysW
namespace Go.Proofs.Ytplbejicjinhaaa
open Go.ChangeShapes Go.WideShapes Go.ChangeAt Go.RowKit
set_option linter.unusedVariables false

theorem BR.kept5 {w w' : World} {B n1 n2 : Nat} {vs1 vs2 : List Value} {a1 a2 : Option Addr} {c1 c2 : Nat} {hd : Int} (h : BR w B vs1 vs2 n1 n2 a1 a2 c1 c2 hd)
    (hk : ∀ (k : Nat) (T : TypeId) (cur : Array Value), T ≠ 5 → w.heap[k]? = some (Obj.cells cur T (0, 0)) → w'.heap[k]? = w.heap[k]?) : BR w' B vs1 vs2 n1 n2 a1 a2 c1 c2 hd := by
  have ho : ∀ {a c vs}, Outer w (B + 1) a c vs → ∀ g, blk a = some g → w'.heap[g]? = w.heap[g]? := by
    intro a c vs h g hg
    rcases h.2 with ⟨rfl, _⟩ | ⟨G, off, cur, rfl, _, hh, _⟩
    · cases hg
    · simp [blk] at hg
      subst hg
      exact hk G 26 cur (by decide) hh
  exact ⟨by rw [hk B 49 _ (by decide) h.blkB]; exact h.blkB, h.l1, h.l2, h.o1.kept (ho h.o1), h.o2.kept (ho h.o2), h.ne⟩

/-- the lists stand in rows of their own; those ahead of k bear their marks -/
structure MS (w : World) (B : Nat) (es : List Ent) (G1 o1 G2 o2 c1 c2 : Nat) (hd : Int) (k : Nat) : Prop where
  br : BR w B (es.map Ent.val) (es.map Ent.wal) es.length es.length (some ⟨G1, o1, none⟩) (some ⟨G2, o2, none⟩) c1 c2 hd
  rows : ∀ e ∈ es, B < e.g ∧ e.cap ≤ maxLen ∧ e.zs.length ≤ e.cap ∧ ∃ cur : Array Value, w.heap[e.g]? = some (Obj.cells cur 5 (0, 0)) ∧ cur.size = e.cap
  marks : ∀ j e, es[j]? = some e → j < k → ∀ i, i < e.cap → w.cell? ⟨e.g, i, none⟩ = some (.int .u8 (markB j i))
  nd : (es.map Ent.g).Nodup

theorem MS.drewN {w : World} {B : Nat} {es : List Ent} {G1 o1 G2 o2 c1 c2 : Nat} {hd : Int} {k : Nat} (h : MS w B es G1 o1 G2 o2 c1 c2 hd k) (q : Nat) : MS (w.drewN q) B es G1 o1 G2 o2 c1 c2 hd k :=
  ⟨h.br.drewN q, h.rows, h.marks, h.nd⟩

theorem nodup_at {es : List Ent} (h : (es.map Ent.g).Nodup) {i j : Nat} {a b : Ent} (ha : es[i]? = some a) (hb : es[j]? = some b) (hg : a.g = b.g) : i = j := by
  have l1 : i < (es.map Ent.g).length := by simpa using (List.getElem?_eq_some_iff.1 ha).1
  have l2 : j < (es.map Ent.g).length := by simpa using (List.getElem?_eq_some_iff.1 hb).1
  have hp := List.pairwise_iff_getElem.1 h
  obtain ⟨_, ea⟩ := List.getElem?_eq_some_iff.1 ha
  obtain ⟨_, eb⟩ := List.getElem?_eq_some_iff.1 hb
  have hia : (es.map Ent.g)[i] = a.g := by simp [ea]
  have hjb : (es.map Ent.g)[j] = b.g := by simp [eb]
  rcases Nat.lt_trichotomy i j with hlt | heq | hgt
  · exact absurd (hia.trans (hg.trans hjb.symm)) (hp i j l1 l2 hlt)
  · exact heq
  · exact absurd (hjb.trans (hg.symm.trans hia.symm)) (hp j i l2 l1 hgt)

theorem MS.store {w : World} {B : Nat} {es : List Ent} {G1 o1 G2 o2 c1 c2 : Nat} {hd : Int} {k t : Nat} {e : Ent} (h : MS w B es G1 o1 G2 o2 c1 c2 hd k) (he : es[k]? = some e) (ht : t < e.cap)
    (hp : ∀ i, i < t → w.cell? ⟨e.g, i, none⟩ = some (.int .u8 (markB k i))) :
    MS (w.setCell ⟨e.g, t, none⟩ (.int .u8 (markB k t))) B es G1 o1 G2 o2 c1 c2 hd k ∧ ∀ i, i < t + 1 → (w.setCell ⟨e.g, t, none⟩ (.int .u8 (markB k t))).cell? ⟨e.g, i, none⟩ = some (.int .u8 (markB k i)) := by
  have hmem : e ∈ es := List.mem_of_getElem? he
  obtain ⟨hBg, _, _, cur, hh, hs⟩ := h.rows e hmem
  have hoth : ∀ g, g ≠ e.g → (w.setCell ⟨e.g, t, none⟩ (.int .u8 (markB k t))).heap[g]? = w.heap[g]? := fun g hg => heap_setCell_other w ⟨e.g, t, none⟩ g _ hg
  have hsame := heap_setCell_same w e.g t cur 5 (.int .u8 (markB k t)) hh
  refine ⟨⟨h.br.kept5 fun g T cu hT hg => hoth g (fun e1 => ?_), fun e1 he1 => ?_, fun j e1 he1 hj i hi => ?_, h.nd⟩, fun i hi => ?_⟩
  · subst e1
    rw [hh] at hg
    simp at hg
    exact hT hg.2.symm
  · obtain ⟨a1, a2, a3, cu, hc, hsz⟩ := h.rows e1 he1
    refine ⟨a1, a2, a3, ?_⟩
    by_cases hg : e1.g = e.g
    · rw [hg] at hc ⊢
      rw [hh] at hc
      simp at hc
      subst hc
      exact ⟨_, hsame, by simp [hsz]⟩
    · exact ⟨cu, by rw [hoth _ hg]; exact hc, hsz⟩
  · have hne : e1.g ≠ e.g := fun hg => by have := nodup_at h.nd he1 he hg; omega
    rw [World.cell?_of_block (hoth e1.g hne)]
    exact h.marks j e1 he1 hj i hi
  · rw [cell_of_row _ e.g i _ 5 (0, 0) hsame]
    by_cases hit : i = t
    · subst hit
      simp [hs, ht]
    · have := hp i (by omega)
      rw [cell_of_row w e.g i cur 5 (0, 0) hh] at this
      rw [Array.getElem?_setIfInBounds_ne (by omega)]
      exact this

theorem MS.next {w : World} {B : Nat} {es : List Ent} {G1 o1 G2 o2 c1 c2 : Nat} {hd : Int} {k : Nat} {e : Ent} (h : MS w B es G1 o1 G2 o2 c1 c2 hd k) (he : es[k]? = some e)
    (hp : ∀ i, i < e.cap → w.cell? ⟨e.g, i, none⟩ = some (.int .u8 (markB k i))) : MS w B es G1 o1 G2 o2 c1 c2 hd (k + 1) := by
  refine ⟨h.br, h.rows, fun j e1 he1 hj i hi => ?_, h.nd⟩
  by_cases hjk : j = k
  · subst hjk
    rw [he] at he1
    cases he1
    exact hp i hi
  · exact h.marks j e1 he1 (by omega) i hi

theorem MS.start {w : World} {B : Nat} {es : List Ent} {G1 o1 G2 o2 c1 c2 : Nat} {hd : Int} (h : BS w B es (some ⟨G1, o1, none⟩) (some ⟨G2, o2, none⟩) c1 c2 hd) (hnd : (es.map Ent.g).Nodup) : MS w B es G1 o1 G2 o2 c1 c2 hd 0 :=
  ⟨h.1, fun e he => by
    obtain ⟨h1, ⟨h2, h3, cur, hh, hs, _⟩, _⟩ := h.2 e he
    exact ⟨h1, h2, h3, cur, hh, hs⟩, fun j e _ hj => by omega, hnd⟩

theorem MS.facts {w : World} {B : Nat} {es : List Ent} {G1 o1 G2 o2 c1 c2 : Nat} {hd : Int} {k t : Nat} {e : Ent} (h : MS w B es G1 o1 G2 o2 c1 c2 hd k) (he : es[t]? = some e) :
    w.cell? ⟨B, 0, none⟩ = some (.slice (some ⟨G1, o1, none⟩) es.length c1) ∧ w.cell? ⟨G1, o1 + t, none⟩ = some (.slice (some ⟨e.g, 0, none⟩) e.zs.length e.cap) := by
  have hl : t < (es.map Ent.val).length := by simpa using (List.getElem?_eq_some_iff.1 he).1
  refine ⟨h.br.q0, (h.br.o1.cell (a := none) t hl).trans ?_⟩
  rw [List.getElem?_map, he]
  rfl
theorem MS.cellThere {w : World} {B : Nat} {es : List Ent} {G1 o1 G2 o2 c1 c2 : Nat} {hd : Int} {k t : Nat} {e : Ent} (h : MS w B es G1 o1 G2 o2 c1 c2 hd k) (he : e ∈ es) (ht : t < e.cap) :
    (∃ v, w.cell? ⟨e.g, t, none⟩ = some v) ∧ w.frozen? ⟨e.g, t, none⟩ = false := by
  obtain ⟨_, _, _, cur, hh, hs⟩ := h.rows e he
  refine ⟨?_, frozen_of_row w e.g t cur 5 hh⟩
  rw [cell_of_row w e.g t cur 5 (0, 0) hh]
  exact ⟨cur[t]'(by omega), by simp [hs, ht]⟩

set_option maxRecDepth 100000 in
set_option maxHeartbeats 1600000 in
theorem apart_any (B : Nat) (es : List Ent) (G1 o1 G2 o2 c1 c2 : Nat) (held : Int) (w : World) (hS : BS w B es (some ⟨G1, o1, none⟩) (some ⟨G2, o2, none⟩) c1 c2 held) (hn : es.length ≤ 4000) (hnd : (es.map Ent.g).Nodup) :
    Calls Try.prog 26 #[.pointer (some ⟨B, 0, none⟩), .func (.func 27) #[] #[]] w fun e w' => e = .returned (.bool true) ∧ Below B w w' := by
  obtain ⟨n, hne⟩ : ∃ n, n = es.length := ⟨_, rfl⟩
  have hn' : n ≤ 4000 := by omega
  have HN : Hid (n = es.length ∧ (es.map Ent.g).Nodup) := ⟨hne, hnd⟩
  have hst := stays_any B es G1 o1 G2 o2 c1 c2 held w hS hn
  clear hne hn hnd hS
  go_enter Try.func26, Try.ntmps26
  go_wp2_with (go_at_call 30; refine hst.mono ?_; rintro e w1 ⟨rfl, hS1, k51, hb1⟩)
  have HS : Hid (MS w1 B es G1 o1 G2 o2 c1 c2 held 0) := MS.start hS1 HN.out.2
  clear hS1 k51
  go_loopw [5] (fun i wr => ∃ k : Nat, k ≤ n ∧ i = .int .i64 k ∧ MS wr B es G1 o1 G2 o2 c1 c2 held k ∧ Below B w wr) (fun i _ => n - (intOf i).toNat)
  case atStart => exact ⟨0, Nat.zero_le _, rfl, HS.out, hb1⟩
  case round =>
    obtain ⟨k, hk, rfl, hM, hb⟩ := hrel
    have q0 := hM.br.q0
    rw [← HN.out.1] at q0
    have HM : Hid (MS wr B es G1 o1 G2 o2 c1 c2 held k) := hM
    by_cases hlt : k < n
    · obtain ⟨e0, he0⟩ : ∃ e0, es[k]? = some e0 := ⟨es[k]'(by rw [← HN.out.1]; exact hlt), List.getElem?_eq_getElem _⟩
      have hmem : e0 ∈ es := List.mem_of_getElem? he0
      have p1 := (hM.facts he0).2
      obtain ⟨_, hcm, hzc, _⟩ := hM.rows e0 hmem
      have HE : Hid (es[k]? = some e0 ∧ e0 ∈ es) := ⟨he0, hmem⟩
      have i1 : (0 : Int) ≤ (k : Int) := by omega
      have i2 : (k : Int) < (n : Int) := by omega
      unfold maxLen at hcm
      clear hM he0 hmem
      go_wp2
      go_quiet (fail)
      go_wp2
      clear q0 p1
      go_loopw [7] (fun j wx => ∃ t : Nat, t ≤ e0.cap ∧ j = .int .i64 t ∧ MS wx B es G1 o1 G2 o2 c1 c2 held k ∧ (∀ i, i < t → wx.cell? ⟨e0.g, i, none⟩ = some (.int .u8 (markB k i))) ∧ Below B w wx) (fun j _ => e0.cap - (intOf j).toNat)
      case atStart => exact ⟨0, Nat.zero_le _, rfl, HM.out.drewN _, fun i hi => by omega, below_drewN hb _⟩
      case round =>
        obtain ⟨t, ht, rfl, hMx, hpx, hbx⟩ := hrel
        by_cases htl : t < e0.cap
        · obtain ⟨⟨v0, z1⟩, z2⟩ := hMx.cellThere HE.out.2 htl
          have HX : Hid (MS (wr.setCell ⟨e0.g, t, none⟩ (.int .u8 (markB k t))) B es G1 o1 G2 o2 c1 c2 held k ∧ ∀ i, i < t + 1 → (wr.setCell ⟨e0.g, t, none⟩ (.int .u8 (markB k t))).cell? ⟨e0.g, i, none⟩ = some (.int .u8 (markB k i))) := hMx.store HE.out.1 htl hpx
          have hBg : B ≤ e0.g := by have := (hMx.rows e0 HE.out.2).1; omega
          have i3 : (0 : Int) ≤ (t : Int) := by omega
          have i4 : (t : Int) < (e0.cap : Int) := by omega
          clear hMx hpx HM
          go_wp2_with (go_at_call 27; refine (bytes_any _ _ _ (by omega) (by omega)).mono ?_; rintro e w' ⟨rfl, rfl⟩)
          go_roundw
          case rel => exact ⟨t + 1, by omega, by go_num, HX.out.1, HX.out.2, hbx.setCell hBg _⟩
          case measure => simp [intOf]; omega
        · have e : t = e0.cap := by omega
          subst e
          have HX : Hid (MS wr B es G1 o1 G2 o2 c1 c2 held (k + 1)) := hMx.next HE.out.1 hpx
          clear hMx hpx
          go_wp2
          go_roundw
          case rel => exact ⟨k + 1, by omega, by go_num, HX.out, hbx⟩
          case measure => simp [intOf]; omega
    · have e : k = n := by omega
      subst e
      clear hM
      go_wp2
      clear q0
      go_loopw [8] (fun i wx => ∃ r : Nat, r ≤ k ∧ i = .int .i64 r ∧ MS wx B es G1 o1 G2 o2 c1 c2 held k ∧ Below B w wx) (fun i _ => k - (intOf i).toNat)
      case atStart => exact ⟨0, Nat.zero_le _, rfl, HM.out, hb⟩
      case round =>
        obtain ⟨r, hr, rfl, hM, hbr⟩ := hrel
        have q0 := hM.br.q0
        rw [← HN.out.1] at q0
        have HM2 : Hid (MS wr B es G1 o1 G2 o2 c1 c2 held k) := hM
        by_cases hlr : r < k
        · obtain ⟨e0, he0⟩ : ∃ e0, es[r]? = some e0 := ⟨es[r]'(by rw [← HN.out.1]; exact hlr), List.getElem?_eq_getElem _⟩
          have hmem : e0 ∈ es := List.mem_of_getElem? he0
          have p1 := (hM.facts he0).2
          obtain ⟨_, hcm, hzc, _⟩ := hM.rows e0 hmem
          have HE : Hid (es[r]? = some e0 ∧ e0 ∈ es) := ⟨he0, hmem⟩
          have i1 : (0 : Int) ≤ (r : Int) := by omega
          have i2 : (r : Int) < (k : Int) := by omega
          unfold maxLen at hcm
          clear hM he0 hmem HM
          go_wp2
          go_quiet (fail)
          go_wp2
          clear q0 p1
          go_loopw [10] (fun j wx => ∃ t : Nat, t ≤ e0.cap ∧ j = .int .i64 t ∧ MS wx B es G1 o1 G2 o2 c1 c2 held k ∧ Below B w wx) (fun j _ => e0.cap - (intOf j).toNat)
          case atStart => exact ⟨0, Nat.zero_le _, rfl, HM2.out.drewN _, below_drewN hbr _⟩
          case round =>
            obtain ⟨t, ht, rfl, hMx, hbx⟩ := hrel
            have HX : Hid (MS wr B es G1 o1 G2 o2 c1 c2 held k) := hMx
            by_cases htl : t < e0.cap
            · have z1 := hMx.marks r e0 HE.out.1 hlr t htl
              have i3 : (0 : Int) ≤ (t : Int) := by omega
              have i4 : (t : Int) < (e0.cap : Int) := by omega
              clear hMx
              go_wp2
              go_quiet ((go_at_call 27; exact Calls.quiet_of_same (bytes_any _ _ _ (by omega) (by omega))))
              go_wp2
              go_roundw
              case rel => exact ⟨t + 1, by omega, by go_num, HX.out.drewN _, below_drewN hbx _⟩
              case measure => simp [intOf]; omega
            · clear hMx
              go_wp2
              go_roundw
              case rel => exact ⟨r + 1, by omega, by go_num, HX.out, hbx⟩
              case measure => simp [intOf]; omega
        · have g0 := hM.br.fz 0
          have g1 := hM.br.fz 1
          have g2 := hM.br.fz 2
          have q1 := hM.br.q1
          have q2 := hM.br.q2
          clear hM
          go_wp2
          go_ret
          exact ⟨rfl, Below.setCell (p := ⟨B, 2, none⟩) (Below.setCell (p := ⟨B, 1, none⟩) (Below.setCell (p := ⟨B, 0, none⟩) hbr (Nat.le_refl _) _) (Nat.le_refl _) _) (Nat.le_refl _) _⟩
end Go.Proofs.Ytplbejicjinhaaa
