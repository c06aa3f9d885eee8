/- The document's Read of objects: where its parts begin and end. -/
import Derived.Test.YtmndccbeddaphaaGreatDoorDd5
import Derived.Test.YtmndccbeddaphaaGreatDoorDd6T
/- The document's reader of objects: section, of Data. -/
namespace Go.Proofs.YtmndccbeddaphaaGreatDoor
open Go.ChangeShapes Go.WideShapes Go.ChangeAt Go.RowKit Go.Sort
set_option linter.unusedVariables false
set_option linter.unusedSimpArgs false
set_option maxRecDepth 100000
section
variable {w w' : World} {r : Nat} {a : Option Addr} {c : Nat} {zs : List Int} {p : Nat} {bad : Rfu}
structure SD (w : World) (r : Nat) (a : Option Addr) (c : Nat) (zs : List Int) (vt : Value) (LT : List (Itm × Value)) (R : RdI) (k : Nat) (L : List (Itm × Value)) (p : Nat) (b : Rfu) (v : Value) (wr : World) : Prop where
  rd : RD wr r a c zs p b
  ul : UL (r + 1) wr vt v (.slice none 0 0) (.slice none 0 0) LT L [] []
  box : wr.heap[w.heap.size]? = some (.cells #[vt, v, .slice none 0 0, .slice none 0 0] 30 (0, 0))
  out : wr.heap[w.heap.size + 1]? = some (.cells uZ 30 (0, 0))
  gr : w.grownBy wr (some r)
  new : ∀ g, v.ownBlock = some g → w.heap.size ≤ g
  ok : b = none → WOk (uOf LT L [] []) ∧ rdItLoop zs 1 k (L.map (·.1)) (labN (LT.map (·.1)) ++ labN (L.map (·.1))) p none = R ∧ LT.length + L.length + k ≤ 8192
  bad : ∀ f, b = some f → R.2.2.2 = some f
  lt : r < w.heap.size
theorem SD.next {vt : Value} {LT : List (Itm × Value)} {R : RdI} {k : Nat} {L : List (Itm × Value)} {v v' : Value} {wr w2 w4 : World} {x : Itm} {vx : Value} {p' : Nat} (h : SD w r a c zs vt LT R (k + 1) L p none v wr) (g2 : wr.grownBy w2 (some r)) (ho2 : w2.ownsRow wr.heap.size 107 2 vx x.e.terms.length (rowT x.e.terms)) (hR2 : RD w2 r a c zs p' (itD zs p)) (hx : itD zs p = none → x = (itR zs p none).1 ∧ p' = (itR zs p none).2.1) (o1 o2 : Obj)
    (ho4 : w4.ownsRow (r + 1) 86 10 v' (L.length + 1) (rowI L ++ (itmCells x vx).toList)) (hg4 : ((w2.alloc o1).alloc o2).grownBy w4 v.ownBlock) (hw4 : v'.ownBlock = v.ownBlock ∨ v'.ownBlock = some ((w2.alloc o1).alloc o2).heap.size) :
    w4.heap[w.heap.size]? = some (.cells #[vt, v, .slice none 0 0, .slice none 0 0] 30 (0, 0)) ∧ RD (w4.setCell ⟨w.heap.size, 1, none⟩ v') r a c zs p' (itD zs p) ∧ UL (r + 1) (w4.setCell ⟨w.heap.size, 1, none⟩ v') vt v' (.slice none 0 0) (.slice none 0 0) LT (L ++ [(x, vx)]) [] [] ∧ (w4.setCell ⟨w.heap.size, 1, none⟩ v').heap[w.heap.size]? = some (.cells #[vt, v', .slice none 0 0, .slice none 0 0] 30 (0, 0)) ∧ (itD zs p = none → HeldU (uOf LT (L ++ [(x, vx)]) [] [])) ∧
    ∀ w5, (w4.setCell ⟨w.heap.size, 1, none⟩ v').grownBy w5 (some r) → (∀ n, RightN (uOf LT (L ++ [(x, vx)]) [] []) n → RD w5 r a c zs p' (gdB (itD zs p) (p : Int) n)) → SD w r a c zs vt LT R k (L ++ [(x, vx)]) p' (itB (itR zs p none).1 1 (labN (LT.map (·.1)) ++ labN (L.map (·.1))) p (itR zs p none).2.2) v' w5 := by
  have hlt := h.lt
  have hz := h.rd.lies.1
  have hsz := h.gr.size
  obtain ⟨hW, hres, hlen⟩ := h.ok rfl
  have hB := chn (below_alloc w2 o1) (below_alloc (w2.alloc o1) o2)
  have u2 := (h.ul.low g2 (Nat.lt_succ_self r)).below hB
  have x2 := own_keptB (own_weaken ho2 (show r + 1 ≤ wr.heap.size by omega)) hB
  have u4 := u2.pushD x2 ho4 hg4 hw4
  have b2 := (g2.block _ (blk_lt h.box) (fun e => by have := Option.some.inj e; omega)).trans h.box
  have b2' := (hB.block _ (blk_lt b2)).trans b2
  have c2 := (g2.block _ (blk_lt h.out) (fun e => by have := Option.some.inj e; omega)).trans h.out
  have c2' := (hB.block _ (blk_lt c2)).trans c2
  have hvb : ∀ {b : Nat} {cs : Array Value}, ((w2.alloc o1).alloc o2).heap[b]? = some (.cells cs 30 (0, 0)) → some b ≠ v.ownBlock := fun hb e => blk_other u2.d.row hb (by decide) e.symm
  have b4 := (hg4.block _ (blk_lt b2') (hvb b2')).trans b2'
  have c4 := (hg4.block _ (blk_lt c2') (hvb c2')).trans c2'
  obtain ⟨s5, k5⟩ := row_set b4 1 v'
  have u5 := u4.box b4 (by decide) (by decide) (by decide) (by decide) k5
  have c5 := (k5.block _ (blk_lt c4) (fun e => by have := Option.some.inj e; omega)).trans c4
  have hvn : ∀ g, v.ownBlock = some g → r < g := fun g hg => by have := h.new g hg; omega
  have r4 := ((hR2.below hB).keep hvn hg4).keep (fun g e => by have := Option.some.inj e; omega) k5
  have g5 := grown_new (grown_new (grown_new (grown_trans h.gr g2) (grown_of_below hB) (fun g e => by cases e)) hg4 h.new) k5 (fun g e => by have := Option.some.inj e; omega)
  have hn5 : ∀ g, v'.ownBlock = some g → w.heap.size ≤ g := fun g hg => by
    rcases hw4 with hw | hw
    · exact h.new g (by rw [← hw]; exact hg)
    · rw [hw] at hg
      have e := Option.some.inj hg
      have := hB.size
      have := g2.size
      omega
  have hl1 : (L.map (·.1)).length = L.length := List.length_map _
  have hl2 : (LT.map (·.1)).length = LT.length := List.length_map _
  have hmap : (L ++ [(x, vx)]).map (·.1) = L.map (·.1) ++ [x] := by simp
  have hheld : itD zs p = none → HeldU (uOf LT (L ++ [(x, vx)]) [] []) := fun hd => by
    have hh := (itR_held hz (itD_none hd)).1
    rw [← (hx hd).1] at hh
    have hu := hW.held
    refine ⟨hu.text, ⟨?_, ?_⟩, hu.equs, hu.globs⟩
    · show ((L ++ [(x, vx)]).map (·.1)).length ≤ _
      rw [hmap, List.length_append, hl1]
      simp
      omega
    · show ∀ y ∈ (L ++ [(x, vx)]).map (·.1), _
      rw [hmap]
      exact mem_snoc hu.data.2 hh
  refine ⟨b4, r4, u5, s5, hheld, fun w5 g6 hR6 => ?_⟩
  obtain ⟨n, hn⟩ := rightN_ex (uOf LT (L ++ [(x, vx)]) [] [])
  have h6 := hR6 n hn
  have hn' : itD zs p = none → ((n = 0 ↔ okI (itR zs p none).1 1 = true ∧ ¬ ((itR zs p none).1.kind = 1 ∧ (itR zs p none).1.name ∈ (labN (LT.map (·.1)) ++ labN (L.map (·.1))))) ∧ (n = 0 → WOk (uOf LT (L ++ [(x, vx)]) [] []))) := fun hd => by
    have hF := (itR_held hz (itD_none hd)).2
    have hn2 : RightN ⟨LT.map (·.1), L.map (·.1) ++ [(itR zs p none).1], [], []⟩ n := by
      rw [← (hx hd).1, ← hmap]
      exact hn
    have := data_next hW hF (by omega) hn2
    rw [← (hx hd).1, ← hmap] at this
    rw [← (hx hd).1]
    exact this
  have e6 := grow_item (g := (labN (LT.map (·.1)) ++ labN (L.map (·.1)))) (sec := 1) (p := p) (zs := zs) (n := n) (fun hd => (hn' hd).1)
  rw [e6] at h6
  have hst : rdItLoop zs 1 k (L.map (·.1) ++ [(itR zs p none).1]) (itG (itR zs p none).1 1 (labN (LT.map (·.1)) ++ labN (L.map (·.1)))) (itR zs p none).2.1 (itB (itR zs p none).1 1 (labN (LT.map (·.1)) ++ labN (L.map (·.1))) p (itR zs p none).2.2) = R := by
    rw [← hres, rdItLoop]
    rfl
  refine ⟨h6, u5.low g6 (Nat.lt_succ_self r), (g6.block _ (blk_lt s5) (fun e => by have := Option.some.inj e; omega)).trans s5, (g6.block _ (blk_lt c5) (fun e => by have := Option.some.inj e; omega)).trans c5, grown_trans g5 g6, hn5, fun hb => ?_, fun f hf => ?_, hlt⟩
  · rw [← e6] at hb
    have hd : itD zs p = none := by
      cases hq : itD zs p with
      | none => rfl
      | some f => rw [hq] at hb; cases hb
    have hn0 : n = 0 := by
      rw [hd] at hb
      unfold gdB at hb
      rw [if_neg (by simp)] at hb
      by_cases h0 : n = 0
      · exact h0
      · rw [if_neg h0] at hb; cases hb
    obtain ⟨k1, k2⟩ := hn' hd
    obtain ⟨ok1, ok2⟩ := k1.1 hn0
    have hW' := k2 hn0
    refine ⟨hW', ?_, ?_⟩
    · rw [← hst, e6.symm.trans hb, hmap, (hx hd).1, (hx hd).2]
      congr 1
      rw [itG_eq ok1]
      · rw [labN_snoc, List.append_assoc]
      · have := hW'.once
        have e9 : (uOf LT (L ++ [(x, vx)]) [] []).names = (labN (LT.map (·.1)) ++ labN (L.map (·.1))) ++ (if (itR zs p none).1.kind = 1 then [(itR zs p none).1.name] else []) := by unfold UVal.names; rw [show (uOf LT (L ++ [(x, vx)]) [] []).data = L.map (·.1) ++ [x] from hmap, labN_snoc, (hx hd).1]; simp
        rw [e9] at this
        exact this
    · rw [List.length_append]
      simp
      omega
  · rw [← hst, hf]
    exact rdItLoop_s _ _ _ _
def SeD (w : World) (r : Nat) (a : Option Addr) (c : Nat) (zs : List Int) (vt : Value) (LT : List (Itm × Value)) (R : RdI) (e : Ending) (w' : World) : Prop :=
  ∃ v L p', e = .returned (.agg #[vt, v, .slice none 0 0, .slice none 0 0]) ∧ w.grownBy w' (some r) ∧ UL (r + 1) w' vt v (.slice none 0 0) (.slice none 0 0) LT L [] [] ∧ RD w' r a c zs p' R.2.2.2 ∧ (R.2.2.2 = none → WOk (uOf LT L [] []) ∧ L.map (·.1) = R.1 ∧ p' = R.2.2.1 ∧ R.2.1 = (labN (LT.map (·.1)) ++ labN (L.map (·.1))))
abbrev put4D (w : World) (g : Nat) (v0 v1 v2 v3 : Value) : World := (((w.setCell ⟨g, 0, none⟩ v0).setCell ⟨g, 1, none⟩ v1).setCell ⟨g, 2, none⟩ v2).setCell ⟨g, 3, none⟩ v3
theorem SD.end {vt : Value} {LT : List (Itm × Value)} {R : RdI} {k : Nat} {L : List (Itm × Value)} {v : Value} {b : Rfu} {wr : World} (h : SD w r a c zs vt LT R k L p b v wr) (hk : b = none → k = 0) : (put4D wr (w.heap.size + 1) vt v (.slice none 0 0) (.slice none 0 0)).heap[w.heap.size + 1]? = some (.cells #[vt, v, .slice none 0 0, .slice none 0 0] 30 (0, 0)) ∧ SeD w r a c zs vt LT R (.returned (.agg #[vt, v, .slice none 0 0, .slice none 0 0])) (put4D wr (w.heap.size + 1) vt v (.slice none 0 0) (.slice none 0 0)) := by
  have hlt := h.lt
  obtain ⟨s0, k0⟩ := row_set h.out 0 vt
  obtain ⟨s1, k1⟩ := row_set s0 1 v
  obtain ⟨s2, k2⟩ := row_set s1 2 (.slice none 0 0)
  obtain ⟨s3, k3⟩ := row_set s2 3 (.slice none 0 0)
  have hkk := grown_trans (grown_trans (grown_trans k0 k1) k2) k3
  have hR : R.2.2.2 = b ∧ (b = none → WOk (uOf LT L [] []) ∧ L.map (·.1) = R.1 ∧ p = R.2.2.1 ∧ R.2.1 = (labN (LT.map (·.1)) ++ labN (L.map (·.1)))) := by
    cases hb : b with
    | some f => exact ⟨h.bad f hb, fun e => by cases e⟩
    | none =>
      obtain ⟨hW, hres, _⟩ := h.ok hb
      rw [hk hb, rdItLoop] at hres
      rw [← hres]
      exact ⟨rfl, fun _ => ⟨hW, rfl, rfl, rfl⟩⟩
  refine ⟨s3, v, L, p, rfl, grown_new h.gr hkk (fun g e => by have := Option.some.inj e; omega), h.ul.box h.out (by decide) (by decide) (by decide) (by decide) hkk, ?_, ?_⟩
  · rw [hR.1]
    exact h.rd.keep (fun g e => by have := Option.some.inj e; omega) hkk
  · rw [hR.1]
    exact hR.2
set_option maxHeartbeats 16000000 in
theorem sectionD {vt : Value} {LT : List (Itm × Value)} (h : RD w r a c zs p bad) (hU : UL (r + 1) w vt (.slice none 0 0) (.slice none 0 0) (.slice none 0 0) LT [] [] []) (hW : bad = none → WOk (uOf LT [] [] [])) (hM : bad = none → LT.length ≤ 8192) :
    Calls Tryz.prog 41 #[.pointer (some ⟨r, 0, none⟩), .agg #[vt, .slice none 0 0, .slice none 0 0, .slice none 0 0], .bool true] w fun e w' => SeD w r a c zs vt LT (rdItems zs 1 (8192 - (LT.length : Int)) (labN (LT.map (·.1)) ++ labN (([] : List (Itm × Value)).map (·.1))) p bad) e w' := by
  obtain ⟨i1, hi1, hy0, hy1, hy2⟩ := info_parts info91
  have hlt := blk_lt h.blk
  have hz := h.lies.1
  have hat := h.at_
  obtain ⟨ta, tc, rfl⟩ := own_slice hU.t.row
  obtain ⟨lT, hlT⟩ : ∃ lT, lT = LT.length := ⟨_, rfl⟩
  rw [← hlT] at hU hM ⊢
  replace hlT := Hid.intro hlT
  have hbd : 0 ≤ ndV zs p 2 bad ∧ ndV zs p 2 bad ≤ 65535 := by
    have := rdV_bd hz p
    unfold ndV
    split <;> omega
  have hA : RD ((w.alloc (.cells #[.slice ta lT tc, .slice none 0 0, .slice none 0 0, .slice none 0 0] 30)).alloc (.cells uZ 30)) r a c zs p bad := (h.below (below_alloc w _)).below (below_alloc _ _)
  have c1 := (four_readD hA.blk).2.1
  have h42 := Hid.intro (numD2 hA)
  obtain ⟨n0, hn0⟩ : ∃ n0 : Nat, ndV zs p 2 bad = (n0 : Int) := ⟨(ndV zs p 2 bad).toNat, by omega⟩
  have b0 := heap_alloc_new w (.cells #[.slice ta lT tc, .slice none 0 0, .slice none 0 0, .slice none 0 0] 30)
  have b0' := keepB b0 (.cells uZ 30)
  have b1 := heap_alloc_new (w.alloc (.cells #[.slice ta lT tc, .slice none 0 0, .slice none 0 0, .slice none 0 0] 30)) (.cells uZ 30)
  rw [show (w.alloc (.cells #[.slice ta lT tc, .slice none 0 0, .slice none 0 0, .slice none 0 0] 30)).heap.size = w.heap.size + 1 by simp] at b1
  have hbx : Hid (∀ w1, ((w.alloc (.cells #[.slice ta lT tc, .slice none 0 0, .slice none 0 0, .slice none 0 0] 30)).alloc (.cells uZ 30)).grownBy w1 (some r) → w1.heap[w.heap.size]? = some (.cells #[.slice ta lT tc, .slice none 0 0, .slice none 0 0, .slice none 0 0] 30 (0, 0)) ∧ w1.heap[w.heap.size + 1]? = some (.cells uZ 30 (0, 0))) := fun w1 hg => ⟨(hg.block _ (blk_lt b0') (fun e => by have := Option.some.inj e; omega)).trans b0', (hg.block _ (blk_lt b1) (fun e => by have := Option.some.inj e; omega)).trans b1⟩
  have hst : Hid (∀ w1 b2, ((w.alloc (.cells #[.slice ta lT tc, .slice none 0 0, .slice none 0 0, .slice none 0 0] 30)).alloc (.cells uZ 30)).grownBy w1 (some r) → b2 = manyB n0 (8192 - (lT : Int)) p (ndB zs p 2 bad) → RD w1 r a c zs (ndP zs p 2 bad) b2 → SD w r a c zs (.slice ta lT tc) LT (rdItems zs 1 (8192 - (lT : Int)) (labN (LT.map (·.1)) ++ labN (([] : List (Itm × Value)).map (·.1))) p bad) n0 [] (ndP zs p 2 bad) b2 (.slice none 0 0) w1) := fun w1 b2 hg hb2 hR => by
    have hgw : w.grownBy ((w.alloc (.cells #[.slice ta lT tc, .slice none 0 0, .slice none 0 0, .slice none 0 0] 30)).alloc (.cells uZ 30)) (some r) := grown_trans (World.grownBy_alloc w _ (some r)) (World.grownBy_alloc _ _ (some r))
    obtain ⟨x1, x2⟩ := hbx.out w1 hg
    refine ⟨hR, ((hU.below (below_alloc w _)).below (below_alloc _ _)).low hg (Nat.lt_succ_self r), x1, x2, grown_trans hgw hg, (fun g e => by cases e), fun hb => ?_, fun f hf => ?_, hlt⟩
    · rw [hb] at hb2
      obtain ⟨q1, q2⟩ := manyB_none hb2.symm
      rw [ndB_eq] at q1
      obtain rfl := rdB_back 2 q1
      have e1 : rdV zs p 2 = (n0 : Int) := hn0
      refine ⟨hW rfl, ?_, ?_⟩
      · unfold rdItems
        rw [e1, Int.toNat_natCast, q1, show manyB (n0 : Int) (8192 - (lT : Int)) p none = none from by unfold manyB; rw [if_neg (by omega)]]
        rfl
      · simp
        rw [← hlT.out]
        omega
    · rw [hf] at hb2
      rw [ndB_eq] at hb2
      unfold rdItems
      have e2 : manyB (rdV zs p 2) (8192 - (lT : Int)) p (rdB zs p 2 bad) = some f := by
        cases hbd2 : bad with
        | some f2 =>
          rw [hbd2, rdB_s, manyB_s] at hb2
          rw [rdB_s, manyB_s]
          exact hb2.symm
        | none =>
          rw [hbd2] at hb2 hn0
          have e1 : rdV zs p 2 = (n0 : Int) := hn0
          rw [e1]
          exact hb2.symm
      rw [e2]
      exact rdItLoop_s _ _ _ _
  rw [hn0] at h42 hbd
  have hn1 : n0 ≤ 65535 := by omega
  have hM2 : Hid (ndB zs p 2 bad = none → lT ≤ 8192) := fun h0 => hM (by rw [ndB_eq] at h0; exact rdB_back 2 h0)
  clear hM
  generalize rdItems zs 1 (8192 - (lT : Int)) (labN (LT.map (·.1)) ++ labN (([] : List (Itm × Value)).map (·.1))) p bad = R at *
  generalize ndP zs p 2 bad = P1 at *
  generalize ndB zs p 2 bad = B1 at *
  clear hn0 hbd hA h hU hW b0 b0' b1 hat
  cases B1 with
  | some f =>
    have hb2 : Hid (some f = manyB n0 (8192 - (lT : Int)) p (some f)) := (manyB_s _ _).symm
    go_enter Tryz.func41, Tryz.ntmps41
    go_wp2_with (go_at_call 42; (with_reducible refine (h42.out).mono ?_); rintro e w1 ⟨rfl, g1, hR1⟩; have hL := Hid.intro (hst.out w1 _ g1 hb2.out hR1); obtain ⟨c0, c1', c2, c3⟩ := four_readD hR1.blk; have hnz := hR1.nz f rfl; simp only [bdA, bdW, Option.getD_some] at c2 c3; obtain ⟨f1, f2⟩ := f; dsimp only at c2 c3 hnz; have hd2 : (f2 == 0) = false := (by simpa using hnz); obtain ⟨x1, x2⟩ := hbx.out w1 g1; obtain ⟨y0, y1, y2, y3⟩ := four_read x1; obtain ⟨z0, z1, z2, z3⟩ := four_read x2; have zf := fun j => frozen_of_row w1 (w.heap.size + 1) j _ 30 x2; clear g1 hR1 h42)
    all_goals first | omega | skip
    have hE := Hid.intro (hL.out.end (fun e => by cases e))
    clear hL hst hbx
    go_loopw [9] (fun v9 wr => v9 = .int .i64 0 ∧ wr = w1) (fun v9 _ => 0)
    case atStart => exact ⟨rfl, rfl⟩
    case round =>
      obtain ⟨rfl, rfl⟩ := hrel
      by_cases h00 : 0 < n0
      · go_wp2
        all_goals first | omega | skip
        obtain ⟨m0, m1, m2, m3⟩ := four_read hE.out.1
        refine bodyPost_ret (by simp [results, Tryz.results41, go_sem, m0, m1, m2, m3]; try rfl) rfl ?_
        exact hE.out.2
      · obtain rfl : n0 = 0 := by omega
        go_wp2
        all_goals first | omega | skip
        obtain ⟨m0, m1, m2, m3⟩ := four_read hE.out.1
        refine bodyPost_ret (by simp [results, Tryz.results41, go_sem, m0, m1, m2, m3]; try rfl) rfl ?_
        exact hE.out.2
  | none =>
    have hM := hM2.out rfl
    by_cases hmany : (n0 : Int) + lT > 8192
    · have hb2 : Hid (some ((p : Int), 4) = manyB n0 (8192 - (lT : Int)) p none) := by show _ = _; unfold manyB; rw [if_pos (by omega)]; rfl
      go_enter Tryz.func41, Tryz.ntmps41
      go_wp2_with (first
        | (go_at_call 42; (with_reducible refine (h42.out).mono ?_); rintro e w1 ⟨rfl, g1, hR1⟩; obtain ⟨c0, c1', c2, c3⟩ := four_readD hR1.blk; simp only [bdA, bdW, Option.getD_none] at c2 c3; obtain ⟨x1, x2⟩ := hbx.out w1 g1; obtain ⟨y0, y1, y2, y3⟩ := four_read x1; replace g1 := Hid.intro g1; replace hR1 := Hid.intro hR1; clear h42 x1 x2)
        | (go_at_call 43; (with_reducible refine (refuseD_is hR1.out (p : Int) 4 (by decide)).mono ?_); rintro e w2 ⟨rfl, g2, hR2⟩; have hL := Hid.intro (hst.out w2 _ (grown_trans g1.out g2) hb2.out hR2); clear c0 c1' c2 c3 y0 y1 y2 y3; obtain ⟨c0, c1', c2, c3⟩ := four_readD hR2.blk; simp only [bdA, bdW, firstR, Option.getD_some] at c2 c3; obtain ⟨x1, x2⟩ := hbx.out w2 (grown_trans g1.out g2); obtain ⟨y0, y1, y2, y3⟩ := four_read x1; obtain ⟨z0, z1, z2, z3⟩ := four_read x2; have zf := fun j => frozen_of_row w2 (w.heap.size + 1) j _ 30 x2; clear g1 hR1 g2 hR2))
      all_goals first | omega | skip
      have hE := Hid.intro (hL.out.end (fun e => by cases e))
      clear hL hst hbx
      go_loopw [9] (fun v9 wr => v9 = .int .i64 0 ∧ wr = w2) (fun v9 _ => 0)
      case atStart => exact ⟨rfl, rfl⟩
      case round =>
        obtain ⟨rfl, rfl⟩ := hrel
        go_wp2
        all_goals first | omega | skip
        obtain ⟨m0, m1, m2, m3⟩ := four_read hE.out.1
        refine bodyPost_ret (by simp [results, Tryz.results41, go_sem, m0, m1, m2, m3]; try rfl) rfl ?_
        exact hE.out.2
    · have hb2 : Hid (none = manyB n0 (8192 - (lT : Int)) p none) := by show _ = _; unfold manyB; rw [if_neg (by omega)]
      have hmle : n0 + lT ≤ 8192 := by omega
      go_enter Tryz.func41, Tryz.ntmps41
      go_wp2_with (go_at_call 42; (with_reducible refine (h42.out).mono ?_); rintro e w1 ⟨rfl, g1, hR1⟩; have hL0 := Hid.intro (hst.out w1 _ g1 hb2.out hR1); obtain ⟨c0, c1', c2, c3⟩ := four_readD hR1.blk; simp only [bdA, bdW, Option.getD_none] at c2 c3; obtain ⟨x1, x2⟩ := hbx.out w1 g1; obtain ⟨y0, y1, y2, y3⟩ := four_read x1; clear g1 hR1 h42 x1 x2)
      all_goals first | omega | skip
      clear hst hbx c0 c1' c2 c3 y0 y1 y2 y3 c1
      go_loopw [9] (fun v9 wr => ∃ (j : Nat) (L : List (Itm × Value)) (q : Nat) (b : Rfu) (v : Value), j ≤ n0 ∧ L.length ≤ j ∧ v9 = .int .i64 (j : Int) ∧ Hid (SD w r a c zs (.slice ta lT tc) LT R (n0 - j) L q b v wr)) (fun v9 _ => n0 - (intOf v9).toNat)
      case atStart => exact ⟨0, [], _, _, _, by omega, by simp, rfl, hL0⟩
      case round =>
        obtain ⟨j, L, q, b, v, hj, hLj, rfl, hL⟩ := hrel
        clear hL0
        obtain ⟨c0, c1, c2, c3⟩ := four_readD hL.out.rd.blk
        obtain ⟨va9, vc9, rfl⟩ := own_slice hL.out.ul.d.row
        obtain ⟨l9, hl9⟩ : ∃ l9, l9 = L.length := ⟨_, rfl⟩
        by_cases hjn : j < n0
        · cases b with
          | some f =>
            have hE := Hid.intro (hL.out.end (fun e => by cases e))
            have hnz := hL.out.rd.nz f rfl
            simp only [bdA, bdW, Option.getD_some] at c2 c3
            obtain ⟨f1, f2⟩ := f
            dsimp only at c2 c3 hnz
            have hd2 : (f2 == 0) = false := by simpa using hnz
            obtain ⟨y0, y1, y2, y3⟩ := four_read hL.out.box
            obtain ⟨z0, z1, z2, z3⟩ := four_read hL.out.out
            have zf := fun j => frozen_of_row wr (w.heap.size + 1) j _ 30 hL.out.out
            clear hL hl9
            go_wp2
            all_goals first | omega | skip
            obtain ⟨m0, m1, m2, m3⟩ := four_read hE.out.1
            refine bodyPost_ret (by simp [results, Tryz.results41, go_sem, m0, m1, m2, m3]; try rfl) rfl ?_
            exact hE.out.2
          | none =>
            simp only [bdA, bdW, Option.getD_none] at c2 c3
            have hk : n0 - j = (n0 - (j + 1)) + 1 := by omega
            have hLk := hL.out
            rw [hk] at hLk
            have h88 := Hid.intro (itemD_is hLk.rd)
            unfold ItDo at h88
            have hx0 := hLk.box
            rw [← hl9] at hx0
            obtain ⟨y0, y1, y2, y3⟩ := four_read hx0
            have hmid : Hid (∀ w2 o1 o2, wr.grownBy w2 (some r) → (w2.heap[w.heap.size]? = some (.cells #[.slice ta lT tc, .slice va9 l9 vc9, .slice none 0 0, .slice none 0 0] 30 (0, 0))) ∧ ((w2.alloc o1).alloc o2).ownsRow (r + 1) 86 10 (.slice va9 l9 vc9) l9 (rowI L) ∧ r + 1 ≤ ((w2.alloc o1).alloc o2).heap.size ∧ w.heap.size < w2.heap.size) := fun w2 o1 o2 hg => by
              have q0 := hLk.lt
              have q1 := (hg.block _ (blk_lt hx0) (fun e => by have := Option.some.inj e; omega)).trans hx0
              have q2 := (((hLk.ul.low hg (Nat.lt_succ_self r)).below (below_alloc w2 o1)).below (below_alloc _ o2)).d.row
              rw [← hl9] at q2
              exact ⟨q1, q2, by have := blk_lt q1; simp; omega, blk_lt q1⟩
            have hnx : Hid (∀ w2 x vx p2 o1 o2 v4 w4, wr.grownBy w2 (some r) → w2.ownsRow wr.heap.size 107 2 vx x.e.terms.length (rowT x.e.terms) → RD w2 r a c zs p2 (itD zs q) → (itD zs q = none → x = (itR zs q none).1 ∧ p2 = (itR zs q none).2.1) → w4.ownsRow (r + 1) 86 10 v4 (l9 + 1) (rowI L ++ (itmCells x vx).toList) → ((w2.alloc o1).alloc o2).grownBy w4 (Value.slice va9 l9 vc9).ownBlock → (v4.ownBlock = (Value.slice va9 l9 vc9).ownBlock ∨ v4.ownBlock = some ((w2.alloc o1).alloc o2).heap.size) → _) := fun w2 x vx p2 o1 o2 v4 w4 h1 h2 h3 h4 h5 h6 h7 => by
              rw [hl9] at h5 h6 h7
              exact hLk.next h1 h2 h3 h4 o1 o2 h5 h6 h7
            rw [← hl9] at hnx
            have hl10 : l9 ≤ 8192 := by omega
            generalize itB (itR zs q none).1 1 (labN (LT.map (·.1)) ++ labN (L.map (·.1))) q (itR zs q none).2.2 = B9 at *
            generalize itR zs q none = X9 at *
            generalize rowI L = RI at *
            clear hL hLk hk hl9 hx0
            go_wp2_with (first
              | (go_at_call 88; (with_reducible refine (h88.out).mono ?_); rintro e w2 ⟨x, vx, p2, rfl, g2, ho2, hR2, hx2⟩; obtain ⟨ax, cx, rfl⟩ := own_slice ho2; obtain ⟨tl, htl⟩ : ∃ tl, tl = x.e.terms.length := ⟨_, rfl⟩; have hxr := heap_alloc_new w2 (.cells (itmCells x (.slice ax x.e.terms.length cx)) 86); obtain ⟨p0, p1, p2', p3, p4, p5, p6, p7, p8, p9⟩ := rowIt hxr; have hmm := Hid.intro (fun o2 => hmid.out w2 (.cells (itmCells x (.slice ax x.e.terms.length cx)) 86) o2 g2); have hm0 := keepB (hmm.out (.cells #[] 0)).1 (.cells (itmCells x (.slice ax x.e.terms.length cx)) 86); clear y0 y1 y2 y3; obtain ⟨y0, y1, y2, y3⟩ := four_read hm0; replace g2 := Hid.intro g2; replace ho2 := Hid.intro ho2; replace hR2 := Hid.intro hR2; replace hx2 := Hid.intro hx2; replace hm0 := Hid.intro hm0; clear h88 hxr)
              | (at_builtin; go_must (refine wpList_app rfl (.tmp 56) (.tmp 58) 26 rfl (r + 1) 86 i1 _ 10 104 Tryz.underlying26 hi1 hy0 hy1 hy2 rfl (by decide) (.slice va9 l9 vc9) l9 RI rfl (hmm.out _).2.1 (.slice (some ⟨w2.heap.size + 1, 0, none⟩) 1 1) 1 (itmCells x (.slice ax x.e.terms.length cx)).toList rfl (.inr ⟨_, _, rfl, cells_new2 w2 _ (itmCells x (.slice ax x.e.terms.length cx)) 86⟩) rfl (by simp [Value.oneCell']) (by unfold maxLen; omega) (by omega) (hmm.out _).2.2.1 ?_; intro v4 w4 ho4 hg4 hw4; obtain ⟨a4, c4, rfl⟩ := own_slice ho4; obtain ⟨n1, n2, n3, n4, n5, n6⟩ := hnx.out w2 x _ p2 _ _ _ w4 g2.out ho2.out hR2.out hx2.out ho4 hg4 hw4; clear y0 y1 y2 y3 p0 p1 p2' p3 p4 p5 p6 p7 p8 p9; obtain ⟨y0, y1, y2, y3⟩ := four_read n1; have yf := frozen_of_row w4 w.heap.size 1 _ 30 n1; obtain ⟨t0, t1, t2, t3⟩ := four_read n4; replace n2 := Hid.intro n2; replace n3 := Hid.intro n3; replace n5 := Hid.intro n5; replace n6 := Hid.intro n6; clear ho4 hg4 hw4 n1 n4 hmm hmid hnx g2 ho2 hR2 hx2 hm0))
              | (go_at_call 46; (with_reducible refine (growD_any n2.out (q : Int) n3.out n5.out).mono ?_); rintro e w5 ⟨rfl, g5, hR5⟩; have hn5 := Hid.intro (n6.out w5 g5 hR5); clear g5 hR5))
            all_goals first | omega | skip
            go_roundw
            case rel => exact ⟨j + 1, _, _, _, _, by omega, by simp; omega, by go_num, hn5⟩
            case measure => simp [intOf]; omega
        · obtain rfl : j = n0 := by omega
          have hE := Hid.intro (hL.out.end (fun _ => Nat.sub_self _))
          obtain ⟨y0, y1, y2, y3⟩ := four_read hL.out.box
          obtain ⟨z0, z1, z2, z3⟩ := four_read hL.out.out
          have zf := fun j => frozen_of_row wr (w.heap.size + 1) j _ 30 hL.out.out
          clear hL hl9
          go_wp2
          all_goals first | omega | skip
          obtain ⟨m0, m1, m2, m3⟩ := four_read hE.out.1
          refine bodyPost_ret (by simp [results, Tryz.results41, go_sem, m0, m1, m2, m3]; try rfl) rfl ?_
          exact hE.out.2
end
end Go.Proofs.YtmndccbeddaphaaGreatDoor
/- The document's reader of objects: a unit in the making, its equs, its globals. -/
namespace Go.Proofs.YtmndccbeddaphaaGreatDoor
open Go.ChangeShapes Go.WideShapes Go.ChangeAt Go.RowKit Go.Sort
set_option linter.unusedVariables false
set_option linter.unusedSimpArgs false
set_option maxRecDepth 100000
section
variable {w w' wr w2 w3 w4 : World} {r q : Nat} {a : Option Addr} {c : Nat} {zs : List Int} {p : Nat} {b : Rfu} {lo : Nat} {vt vd ve vg v' : Value} {LT LD : List (Itm × Value)} {LE : List (Eqv × Value)} {LG : INm}
abbrev refZ : Array Value := #[.int .i64 0, .int .i64 0]
structure RU (w : World) (a : Option Addr) (c : Nat) (zs : List Int) (q : Nat) (vt vd ve vg : Value) (LT LD : List (Itm × Value)) (LE : List (Eqv × Value)) (LG : INm) (p : Nat) (b : Rfu) (wr : World) : Prop where
  rd : RD wr (w.heap.size + 2) a c zs p b
  ul : UL (w.heap.size + 2 + 1) wr vt vd ve vg LT LD LE LG
  box : wr.heap[q]? = some (.cells #[vt, vd, ve, vg] 30 (0, 0))
  o0 : wr.heap[w.heap.size]? = some (.cells uZ 30 (0, 0))
  o1 : wr.heap[w.heap.size + 1]? = some (.cells refZ 37 (0, 0))
  bel : Below w.heap.size w wr
  lt : w.heap.size + 2 < q
  apt : ∀ x, a = some x → x.block ≠ w.heap.size
theorem RU.num (h : RU w a c zs q vt vd ve vg LT LD LE LG p b wr) {p' : Nat} {b' : Rfu} (hg : wr.grownBy w2 (some (w.heap.size + 2))) (hR : RD w2 (w.heap.size + 2) a c zs p' b') : RU w a c zs q vt vd ve vg LT LD LE LG p' b' w2 := by
  have hlt := h.lt
  exact ⟨hR, h.ul.low hg (Nat.lt_succ_self _), (hg.block _ (blk_lt h.box) (fun e => by have := Option.some.inj e; omega)).trans h.box, (hg.block _ (blk_lt h.o0) (fun e => by have := Option.some.inj e; omega)).trans h.o0, (hg.block _ (blk_lt h.o1) (fun e => by have := Option.some.inj e; omega)).trans h.o1, h.bel.grown hg h.bel.size (fun k e => by have := Option.some.inj e; omega), hlt, h.apt⟩
theorem RU.below (h : RU w a c zs q vt vd ve vg LT LD LE LG p b wr) (hb : Below wr.heap.size wr w2) : RU w a c zs q vt vd ve vg LT LD LE LG p b w2 :=
  ⟨h.rd.below hb, h.ul.below hb, (hb.block _ (blk_lt h.box)).trans h.box, (hb.block _ (blk_lt h.o0)).trans h.o0, (hb.block _ (blk_lt h.o1)).trans h.o1, chn h.bel hb, h.lt, h.apt⟩
theorem RU.row (h : RU w a c zs q vt vd ve vg LT LD LE LG p b wr) {T : TypeId} {sz n : Nat} {v : Value} {xs : List Value} (ho : wr.ownsRow (w.heap.size + 2 + 1) T sz v n xs) (h30 : T ≠ 30) (h37 : T ≠ 37) (hg : wr.grownBy w4 v.ownBlock) :
    RD w4 (w.heap.size + 2) a c zs p b ∧ w4.heap[q]? = some (.cells #[vt, vd, ve, vg] 30 (0, 0)) ∧ w4.heap[w.heap.size]? = some (.cells uZ 30 (0, 0)) ∧ w4.heap[w.heap.size + 1]? = some (.cells refZ 37 (0, 0)) ∧ Below w.heap.size w w4 := by
  have hlo : ∀ g, v.ownBlock = some g → w.heap.size + 2 + 1 ≤ g := fun g hgg => (ho.lt g hgg).1
  have hne : ∀ {k : Nat} {cs : Array Value} {T' : TypeId}, wr.heap[k]? = some (.cells cs T' (0, 0)) → T ≠ T' → some k ≠ v.ownBlock := fun hb hT e => blk_other ho hb hT e.symm
  exact ⟨h.rd.keep (fun g e => by have := hlo g e; omega) hg, (hg.block _ (blk_lt h.box) (hne h.box h30)).trans h.box, (hg.block _ (blk_lt h.o0) (hne h.o0 h30)).trans h.o0, (hg.block _ (blk_lt h.o1) (hne h.o1 h37)).trans h.o1, h.bel.grown hg h.bel.size (fun g e => by have := hlo g e; omega)⟩
theorem RU.put {vt' vd' ve' vg' : Value} {LT' LD' : List (Itm × Value)} {LE' : List (Eqv × Value)} {LG' : INm} {A : Array Value} (h : RU w a c zs q vt vd ve vg LT LD LE LG p b wr) (hR : RD w4 (w.heap.size + 2) a c zs p b) (hU : UL (w.heap.size + 2 + 1) w4 vt' vd' ve' vg' LT' LD' LE' LG') (hx : w4.heap[q]? = some (.cells A 30 (0, 0))) (h0 : w4.heap[w.heap.size]? = some (.cells uZ 30 (0, 0))) (h1 : w4.heap[w.heap.size + 1]? = some (.cells refZ 37 (0, 0))) (hB : Below w.heap.size w w4) (j : Nat) (y : Value) (hA : A.setIfInBounds j y = #[vt', vd', ve', vg']) : RU w a c zs q vt' vd' ve' vg' LT' LD' LE' LG' p b (w4.setCell ⟨q, j, none⟩ y) := by
  have hlt := h.lt
  obtain ⟨s, k⟩ := row_set hx j y
  rw [hA] at s
  exact ⟨hR.keep (fun g e => by have := Option.some.inj e; omega) k, hU.box hx (by decide) (by decide) (by decide) (by decide) k, s, (k.block _ (blk_lt h0) (fun e => by have := Option.some.inj e; omega)).trans h0, (k.block _ (blk_lt h1) (fun e => by have := Option.some.inj e; omega)).trans h1, hB.grown k hB.size (fun g e => by have := Option.some.inj e; omega), hlt, h.apt⟩
abbrev nmTD (LT LD : List (Itm × Value)) : INm := labN (LT.map (·.1)) ++ labN (LD.map (·.1))
structure TD (zs : List Int) (LT LD : List (Itm × Value)) : Prop where
  t : LT.map (·.1) = (rdT zs).1
  d : LD.map (·.1) = (rdD zs).1
structure SE (w : World) (a : Option Addr) (c : Nat) (zs : List Int) (q : Nat) (vt vd : Value) (LT LD : List (Itm × Value)) (k : Nat) (L : List (Eqv × Value)) (p : Nat) (b : Rfu) (v : Value) (wr : World) : Prop where
  ru : RU w a c zs q vt vd v (.slice none 0 0) LT LD L [] p b wr
  ok : b = none → WOk (uOf LT LD L []) ∧ rdEqLoop zs k (L.map (·.1)) (nmTD LT LD ++ L.map (·.1.1)) p none = rdE zs ∧ L.length + k ≤ 8192 ∧ TD zs LT LD
  bad : ∀ f, b = some f → (rdE zs).2.2.2 = some f
structure SG (w : World) (a : Option Addr) (c : Nat) (zs : List Int) (q : Nat) (vt vd ve : Value) (LT LD : List (Itm × Value)) (LE : List (Eqv × Value)) (k : Nat) (L : INm) (p : Nat) (b : Rfu) (v : Value) (wr : World) : Prop where
  ru : RU w a c zs q vt vd ve v LT LD LE L p b wr
  ok : b = none → WOk (uOf LT LD LE L) ∧ rdGlLoop zs (nmTD LT LD ++ LE.map (·.1.1)) k L (lastOf [] L) p none = rdG zs ∧ L.length + k ≤ 65535 ∧ TD zs LT LD ∧ LE.map (·.1) = (rdE zs).1
  bad : ∀ f, b = some f → (rdG zs).2.2.2 = some f
theorem eqR_held (hz : O.AreBytes zs) (h : (eqR zs p none).2.2 = none) : HeldE (eqR zs p none).1 ∧ FineQ (eqR zs p none).1 := by
  have hF := (equ_bwd hz h).2.2.2
  have ht := txL_le hz p
  rw [ByteArray.size, ← Array.length_toList] at ht
  exact ⟨⟨Nat.le_trans ht (by decide), by have := hF.few; omega, fun t ht2 => Nat.le_trans ((liL_le hz _ _).2 t ht2) (by decide)⟩, hF⟩
theorem grow_equ {n : Int} {g : INm} (hn : (eqR zs p none).2.2 = none → (n = 0 ↔ okE (eqR zs p none).1 = true ∧ (eqR zs p none).1.1 ∉ g)) : gdB (eqR zs p none).2.2 (p : Int) n = eqB (eqR zs p none).1 g p (eqR zs p none).2.2 := by
  cases hd : (eqR zs p none).2.2 with
  | none =>
    have h1 := hn hd
    unfold gdB eqB
    rw [if_neg (by simp)]
    by_cases hq : n = 0
    · rw [if_pos hq, if_pos (h1.1 hq)]
    · rw [if_neg hq, if_neg (fun h => hq (h1.2 h))]
      rfl
  | some f => rw [eqB_s]; rfl
theorem grow_glob {n : Int} {g : INm} {s la : List UInt8} (hn : b = none → (n = 0 ↔ s ∈ g ∧ nlt la s = true)) : gdB b (p : Int) n = glB s la g p b := by
  cases hd : b with
  | none =>
    have h1 := hn hd
    unfold gdB glB
    rw [if_neg (by simp)]
    by_cases hq : n = 0
    · rw [if_pos hq, if_pos (h1.1 hq)]
    · rw [if_neg hq, if_neg (fun h => hq (h1.2 h))]
      rfl
  | some f => rw [glB_s]; rfl
theorem gdB_none {x n : Int} (h : gdB b x n = none) : b = none ∧ n = 0 := by
  cases hb : b with
  | some f => rw [hb] at h; cases h
  | none =>
    rw [hb] at h
    unfold gdB at h
    rw [if_neg (by simp)] at h
    by_cases h0 : n = 0
    · exact ⟨rfl, h0⟩
    · rw [if_neg h0] at h; cases h
theorem SE.next {k : Nat} {L : List (Eqv × Value)} {v vx : Value} {ts : List Tm} {cn : Int} {p' : Nat} (h : SE w a c zs q vt vd LT LD (k + 1) L p none v wr) (g3 : wr.grownBy w3 (some (w.heap.size + 2))) (ho3 : w3.ownsRow (w.heap.size + 2 + 1) 107 2 vx ts.length (rowT ts)) (hR3 : RD w3 (w.heap.size + 2) a c zs p' (eqR zs p none).2.2) (hx : (eqR zs p none).2.2 = none → ((txL zs p, ⟨ts, cn⟩) : Eqv) = (eqR zs p none).1 ∧ p' = (eqR zs p none).2.1) (o : Obj)
    (ho4 : w4.ownsRow (w.heap.size + 2 + 1) 90 3 v' (L.length + 1) (rowE L ++ (eqCells (txL zs p, ⟨ts, cn⟩) vx).toList)) (hg4 : (w3.alloc o).grownBy w4 v.ownBlock) :
    w4.heap[q]? = some (.cells #[vt, vd, v, .slice none 0 0] 30 (0, 0)) ∧ RU w a c zs q vt vd v' (.slice none 0 0) LT LD (L ++ [((txL zs p, ⟨ts, cn⟩), vx)]) [] p' (eqR zs p none).2.2 (w4.setCell ⟨q, 2, none⟩ v') ∧ ((eqR zs p none).2.2 = none → HeldU (uOf LT LD (L ++ [((txL zs p, ⟨ts, cn⟩), vx)]) [])) ∧
    ∀ w5, (w4.setCell ⟨q, 2, none⟩ v').grownBy w5 (some (w.heap.size + 2)) → (∀ n, RightN (uOf LT LD (L ++ [((txL zs p, ⟨ts, cn⟩), vx)]) []) n → RD w5 (w.heap.size + 2) a c zs p' (gdB (eqR zs p none).2.2 (p : Int) n)) → SE w a c zs q vt vd LT LD k (L ++ [((txL zs p, ⟨ts, cn⟩), vx)]) p' (eqB (eqR zs p none).1 (nmTD LT LD ++ L.map (·.1.1)) p (eqR zs p none).2.2) v' w5 := by
  have hz := h.ru.rd.lies.1
  obtain ⟨hW, hres, hlen, hTD⟩ := h.ok rfl
  have hB := below_alloc w3 o
  have r3 := (h.ru.num g3 hR3).below hB
  have x3 := own_keptB ho3 hB
  obtain ⟨q1, q2, q3, q4, q5⟩ := r3.row r3.ul.e.row (by decide) (by decide) hg4
  have u4 := r3.ul.pushE (x := (txL zs p, ⟨ts, cn⟩)) x3 ho4 hg4
  have ru5 := r3.put q1 u4 q2 q3 q4 q5 2 v' rfl
  have hmap : (L ++ [((txL zs p, (⟨ts, cn⟩ : Lin)), vx)]).map (·.1) = L.map (·.1) ++ [((txL zs p, ⟨ts, cn⟩) : Eqv)] := by simp
  have hmap2 : (L ++ [((txL zs p, (⟨ts, cn⟩ : Lin)), vx)]).map (·.1.1) = L.map (·.1.1) ++ [txL zs p] := by simp
  have hmm : L.map (·.1.1) = (L.map (·.1)).map (·.1) := by simp
  have hl1 : (L.map (·.1)).length = L.length := List.length_map _
  have hheld : (eqR zs p none).2.2 = none → HeldU (uOf LT LD (L ++ [((txL zs p, ⟨ts, cn⟩), vx)]) []) := fun hd => by
    have hh := (eqR_held hz hd).1
    rw [← (hx hd).1] at hh
    have hu := hW.held
    refine ⟨hu.text, hu.data, ⟨?_, ?_⟩, hu.globs⟩
    · show ((L ++ [((txL zs p, (⟨ts, cn⟩ : Lin)), vx)]).map (·.1)).length ≤ _
      rw [hmap, List.length_append, hl1]
      simp
      omega
    · show ∀ y ∈ (L ++ [((txL zs p, (⟨ts, cn⟩ : Lin)), vx)]).map (·.1), _
      rw [hmap]
      exact mem_snoc hu.equs.2 hh
  refine ⟨q2, ru5, hheld, fun w5 g6 hR6 => ?_⟩
  obtain ⟨n, hn⟩ := rightN_ex (uOf LT LD (L ++ [((txL zs p, ⟨ts, cn⟩), vx)]) [])
  have h6 := hR6 n hn
  have hn' : (eqR zs p none).2.2 = none → ((n = 0 ↔ okE (eqR zs p none).1 = true ∧ (eqR zs p none).1.1 ∉ (nmTD LT LD ++ L.map (·.1.1))) ∧ (n = 0 → WOk (uOf LT LD (L ++ [((txL zs p, ⟨ts, cn⟩), vx)]) []))) := fun hd => by
    have hF := (eqR_held hz hd).2
    have hn2 : RightN ⟨LT.map (·.1), LD.map (·.1), L.map (·.1) ++ [(eqR zs p none).1], []⟩ n := by
      rw [← (hx hd).1, ← hmap]
      exact hn
    have := equ_next hW hF (by omega) hn2
    rw [← (hx hd).1, ← hmap] at this
    rw [← (hx hd).1, hmm]
    exact this
  have e6 := grow_equ (g := nmTD LT LD ++ L.map (·.1.1)) (p := p) (zs := zs) (n := n) (fun hd => (hn' hd).1)
  rw [e6] at h6
  have hst : rdEqLoop zs k (L.map (·.1) ++ [(eqR zs p none).1]) (eqG (eqR zs p none).1 (nmTD LT LD ++ L.map (·.1.1))) (eqR zs p none).2.1 (eqB (eqR zs p none).1 (nmTD LT LD ++ L.map (·.1.1)) p (eqR zs p none).2.2) = rdE zs := by
    rw [← hres, rdEqLoop]
    rfl
  refine ⟨ru5.num g6 h6, fun hb => ?_, fun f hf => ?_⟩
  · rw [← e6] at hb
    obtain ⟨hd, hn0⟩ := gdB_none hb
    obtain ⟨k1, k2⟩ := hn' hd
    obtain ⟨ok1, ok2⟩ := k1.1 hn0
    refine ⟨k2 hn0, ?_, ?_, hTD⟩
    · rw [← hst, e6.symm.trans hb, hmap, hmap2, (hx hd).1, (hx hd).2]
      congr 1
      unfold eqG
      rw [if_pos ok1]
      unfold givN
      rw [if_neg ok2, ← (hx hd).1]
      exact (List.append_assoc _ _ _).symm
    · rw [List.length_append]
      simp
      omega
  · rw [← hst, hf]
    exact rdEqLoop_s _ _ _
theorem SG.next {k : Nat} {L : INm} {v : Value} (h : SG w a c zs q vt vd ve LT LD LE (k + 1) L p none v wr) (g3 : wr.grownBy w3 (some (w.heap.size + 2))) (hR3 : RD w3 (w.heap.size + 2) a c zs (txP zs p) (txB zs p none)) (o : Obj)
    (ho4 : w4.ownsRow (w.heap.size + 2 + 1) 9 1 v' (L.length + 1) (rowSt L ++ [.string (str (txL zs p))])) (hg4 : (w3.alloc o).grownBy w4 v.ownBlock) :
    w4.heap[q]? = some (.cells #[vt, vd, ve, v] 30 (0, 0)) ∧ RU w a c zs q vt vd ve v' LT LD LE (L ++ [txL zs p]) (txP zs p) (txB zs p none) (w4.setCell ⟨q, 3, none⟩ v') ∧ (txB zs p none = none → HeldU (uOf LT LD LE (L ++ [txL zs p]))) ∧
    ∀ w5, (w4.setCell ⟨q, 3, none⟩ v').grownBy w5 (some (w.heap.size + 2)) → (∀ n, RightN (uOf LT LD LE (L ++ [txL zs p])) n → RD w5 (w.heap.size + 2) a c zs (txP zs p) (gdB (txB zs p none) (p : Int) n)) → SG w a c zs q vt vd ve LT LD LE k (L ++ [txL zs p]) (txP zs p) (glB (txL zs p) (lastOf [] L) (nmTD LT LD ++ LE.map (·.1.1)) p (txB zs p none)) v' w5 := by
  obtain ⟨hW, hres, hlen, hTD, hLE⟩ := h.ok rfl
  have hB := below_alloc w3 o
  have r3 := (h.ru.num g3 hR3).below hB
  obtain ⟨q1, q2, q3, q4, q5⟩ := r3.row r3.ul.g (by decide) (by decide) hg4
  have u4 := r3.ul.pushG ho4 hg4
  have ru5 := r3.put q1 u4 q2 q3 q4 q5 3 v' rfl
  have hmm : LE.map (·.1.1) = (LE.map (·.1)).map (·.1) := by simp
  have hheld : txB zs p none = none → HeldU (uOf LT LD LE (L ++ [txL zs p])) := fun hd => by
    have hu := hW.held
    refine ⟨hu.text, hu.data, hu.equs, ?_⟩
    show (L ++ [txL zs p]).length ≤ _
    rw [List.length_append]
    simp
    omega
  refine ⟨q2, ru5, hheld, fun w5 g6 hR6 => ?_⟩
  obtain ⟨n, hn⟩ := rightN_ex (uOf LT LD LE (L ++ [txL zs p]))
  have h6 := hR6 n hn
  have hn' := glob_next hW hn
  have e6 := grow_glob (g := nmTD LT LD ++ LE.map (·.1.1)) (p := p) (b := txB zs p none) (s := txL zs p) (la := lastOf [] L) (n := n) (fun hd => by rw [hmm]; exact hn'.1)
  rw [e6] at h6
  have hst : rdGlLoop zs (nmTD LT LD ++ LE.map (·.1.1)) k (L ++ [txL zs p]) (txL zs p) (txP zs p) (glB (txL zs p) (lastOf [] L) (nmTD LT LD ++ LE.map (·.1.1)) p (txB zs p none)) = rdG zs := by
    rw [← hres, rdGlLoop]
    rfl
  refine ⟨ru5.num g6 h6, fun hb => ?_, fun f hf => ?_⟩
  · have hb' := hb
    rw [← e6] at hb
    obtain ⟨hd, hn0⟩ := gdB_none hb
    refine ⟨hn'.2 hn0, ?_, ?_, hTD, hLE⟩
    · rw [← hst, hb', lastOf_snoc]
    · rw [List.length_append]
      simp
      omega
  · rw [← hst, hf]
    exact rdGlLoop_s _ _ _ _
def DrOut (w : World) (zs : List Int) (e : Ending) (w' : World) : Prop := Below w.heap.size w w' ∧
  ((∃ f, rdBad zs = some f ∧ e = .returned (.tuple #[.agg uZ, .agg #[.int .i64 f.1, .int .i64 f.2]]))
  ∨ (rdBad zs = none ∧ ∃ vt vd ve vg LT LD LE LG, e = .returned (.tuple #[.agg #[vt, vd, ve, vg], .agg refZ]) ∧ UL w.heap.size w' vt vd ve vg LT LD LE LG ∧ uOf LT LD LE LG = rdU zs))
abbrev put42 (w : World) (g : Nat) (v0 v1 v2 v3 y0 y1 : Value) : World := (((((w.setCell ⟨g, 0, none⟩ v0).setCell ⟨g, 1, none⟩ v1).setCell ⟨g, 2, none⟩ v2).setCell ⟨g, 3, none⟩ v3).setCell ⟨g + 1, 0, none⟩ y0).setCell ⟨g + 1, 1, none⟩ y1
theorem RU.end (h : RU w a c zs q vt vd ve vg LT LD LE LG p b wr) (v0 v1 v2 v3 y0 y1 : Value) : (put42 wr w.heap.size v0 v1 v2 v3 y0 y1).heap[w.heap.size]? = some (.cells #[v0, v1, v2, v3] 30 (0, 0)) ∧ (put42 wr w.heap.size v0 v1 v2 v3 y0 y1).heap[w.heap.size + 1]? = some (.cells #[y0, y1] 37 (0, 0)) ∧ Below w.heap.size w (put42 wr w.heap.size v0 v1 v2 v3 y0 y1) ∧ UL w.heap.size (put42 wr w.heap.size v0 v1 v2 v3 y0 y1) vt vd ve vg LT LD LE LG := by
  obtain ⟨s0, k0⟩ := row_set h.o0 0 v0
  obtain ⟨s1, k1⟩ := row_set s0 1 v1
  obtain ⟨s2, k2⟩ := row_set s1 2 v2
  obtain ⟨s3, k3⟩ := row_set s2 3 v3
  have hk := grown_trans (grown_trans (grown_trans k0 k1) k2) k3
  have t1 := (hk.block _ (blk_lt h.o1) (fun e => by have := Option.some.inj e; omega)).trans h.o1
  obtain ⟨s4, k4⟩ := row_set t1 0 y0
  obtain ⟨s5, k5⟩ := row_set s4 1 y1
  have hk2 := grown_trans k4 k5
  have t0 := (hk2.block _ (blk_lt s3) (fun e => by have := Option.some.inj e; omega)).trans s3
  have u := (h.ul.box h.o0 (by decide) (by decide) (by decide) (by decide) hk).box t1 (by decide) (by decide) (by decide) (by decide) hk2
  refine ⟨t0, s5, (h.bel.grown hk h.bel.size (fun g e => by have := Option.some.inj e; omega)).grown hk2 (Nat.le_trans h.bel.size hk.size) (fun g e => by have := Option.some.inj e; omega), ?_⟩
  have hw := show w.heap.size ≤ w.heap.size + 2 + 1 by omega
  exact ⟨⟨own_weaken u.t.row hw, fun q hq => own_weaken (u.t.each q hq) hw⟩, ⟨own_weaken u.d.row hw, fun q hq => own_weaken (u.d.each q hq) hw⟩, ⟨own_weaken u.e.row hw, fun q hq => own_weaken (u.e.each q hq) hw⟩, own_weaken u.g hw, u.td⟩
end
end Go.Proofs.YtmndccbeddaphaaGreatDoor
namespace Go.Proofs.YtmndccbeddaphaaGreatDoor
open Go.ChangeShapes Go.WideShapes Go.ChangeAt Go.RowKit Go.Sort
set_option linter.unusedVariables false
set_option linter.unusedSimpArgs false
set_option maxRecDepth 100000
section
variable {zs : List Int} {f : Int × Int}
theorem ndV_bad {p wd : Nat} {b : Rfu} (h : ndB zs p wd b = some f) : ndV zs p wd b = 0 := by
  cases b with
  | some f2 => rfl
  | none =>
    rw [ndB_eq] at h
    unfold rdB at h
    show rdV zs p wd = 0
    unfold rdV
    split at h
    · cases h
    · next hq => rw [if_neg hq]
theorem rdBad_ofG (h : (rdG zs).2.2.2 = some f) : rdBad zs = some f := by unfold rdBad; rw [h, tailB_s]
theorem rdBad_ofE (h : (rdE zs).2.2.2 = some f) : rdBad zs = some f := by
  refine rdBad_ofG ?_
  unfold rdG rG
  rw [h]
  exact rdGlobs_s _ _
theorem rdBad_ofD (h : (rdD zs).2.2.2 = some f) : rdBad zs = some f := by
  refine rdBad_ofE ?_
  unfold rdE rE
  rw [h]
  exact rdEqus_s _ _
theorem rdBad_ofT (h : (rdT zs).2.2.2 = some f) : rdBad zs = some f := by
  refine rdBad_ofD ?_
  unfold rdD rD
  rw [h]
  exact rdItems_s _ _ _
theorem rdBad_ofHead {p : Nat} (h : HdI zs p (some f)) : rdBad zs = some f := by
  refine rdBad_ofT ?_
  unfold rdT
  rw [← (headF_is h (fun e => by cases e)).2]
  exact rdItems_s _ _ _
end
section
variable {w w' wr w1 w2 w3 w4 : World} {r q : Nat} {a : Option Addr} {c : Nat} {zs : List Int} {p : Nat} {b : Rfu} {vt vd ve vg v : Value} {LT LD : List (Itm × Value)} {LE : List (Eqv × Value)} {LG : INm}
structure HD (w wx : World) : Prop where
  o0 : wx.heap[w.heap.size]? = some (.cells uZ 30 (0, 0))
  o1 : wx.heap[w.heap.size + 1]? = some (.cells refZ 37 (0, 0))
  bel : Below w.heap.size w wx
  size : wx.heap.size = w.heap.size + 2
abbrev rdC (a : Option Addr) (n c : Nat) : Array Value := #[.slice a n c, .int .i64 5, .int .i64 0, .int .i64 0]
theorem HD.start (w : World) : HD w ((w.alloc (.cells uZ 30)).alloc (.cells refZ 37)) := by
  have b0 := heap_alloc_new w (.cells uZ 30)
  have b1 := heap_alloc_new (w.alloc (.cells uZ 30)) (.cells refZ 37)
  rw [show (w.alloc (.cells uZ 30)).heap.size = w.heap.size + 1 by simp] at b1
  exact ⟨keepB b0 _, b1, chn (below_alloc w _) (below_alloc _ _), by simp⟩
theorem HD.drewN {wx : World} (h : HD w wx) (n : Nat) : HD w (wx.drewN n) := ⟨h.o0, h.o1, below_drewN h.bel n, h.size⟩
theorem rd_start {wx : World} (h : HD w wx) (hl : O.Lies w a zs) (ha : ∀ x, a = some x → x.block < w.heap.size) (hn : zs.length ≤ 1048576) (hc : zs.length ≤ c) (h5 : 5 ≤ zs.length) : RD (wx.alloc (.cells (rdC a zs.length c) 93)) (w.heap.size + 2) a c zs 5 none := by
  have hB2 := chn h.bel (below_alloc wx (.cells (rdC a zs.length c) 93))
  refine ⟨?_, (fun f e => by cases e), lies_grown hl (fun x hx => ⟨ha x hx, by simp⟩) (grown_of_below hB2), fun x hx => by have := ha x hx; omega, hc, by omega, h5⟩
  have h0 := heap_alloc_new wx (.cells (rdC a zs.length c) 93)
  rw [h.size] at h0
  exact h0
theorem ru_start {wx : World} {o : Obj} (h : HD w wx) (hg : (wx.alloc o).grownBy w2 (some (w.heap.size + 2))) (hU : UL (w.heap.size + 2 + 1) w2 vt (.slice none 0 0) (.slice none 0 0) (.slice none 0 0) LT [] [] []) (hR : RD w2 (w.heap.size + 2) a c zs p b) (hap : ∀ x, a = some x → x.block ≠ w.heap.size) :
    RU w a c zs w2.heap.size vt (.slice none 0 0) (.slice none 0 0) (.slice none 0 0) LT [] [] [] p b (w2.alloc (.cells #[vt, .slice none 0 0, .slice none 0 0, .slice none 0 0] 30)) := by
  have hB := chn h.bel (below_alloc wx o)
  have d0 := keepB h.o0 o
  have d1 := keepB h.o1 o
  have e0 := (hg.block _ (blk_lt d0) (fun e => by have := Option.some.inj e; omega)).trans d0
  have e1 := (hg.block _ (blk_lt d1) (fun e => by have := Option.some.inj e; omega)).trans d1
  have hb := below_alloc w2 (.cells #[vt, .slice none 0 0, .slice none 0 0, .slice none 0 0] 30)
  have h2 := hB.grown hg hB.size (fun k e => by have := Option.some.inj e; omega)
  exact ⟨hR.below hb, hU.below hb, heap_alloc_new w2 _, keepB e0 _, keepB e1 _, chn h2 hb, blk_lt hR.blk, hap⟩
theorem RU.sec (h : RU w a c zs q vt (.slice none 0 0) (.slice none 0 0) (.slice none 0 0) LT [] [] [] p b wr) {p' : Nat} {b' : Rfu} (hg : wr.grownBy w3 (some (w.heap.size + 2))) (hU : UL (w.heap.size + 2 + 1) w3 vt vd (.slice none 0 0) (.slice none 0 0) LT LD [] []) (hR : RD w3 (w.heap.size + 2) a c zs p' b') :
    w3.heap[q]? = some (.cells #[vt, .slice none 0 0, .slice none 0 0, .slice none 0 0] 30 (0, 0)) ∧ RU w a c zs q vt vd (.slice none 0 0) (.slice none 0 0) LT LD [] [] p' b' (put4D w3 q vt vd (.slice none 0 0) (.slice none 0 0)) := by
  have h3 := h.num hg hR
  have hlt := h.lt
  obtain ⟨s0, k0⟩ := row_set h3.box 0 vt
  obtain ⟨s1, k1⟩ := row_set s0 1 vd
  obtain ⟨s2, k2⟩ := row_set s1 2 (.slice none 0 0)
  obtain ⟨s3, k3⟩ := row_set s2 3 (.slice none 0 0)
  have hk := grown_trans (grown_trans (grown_trans k0 k1) k2) k3
  exact ⟨h3.box, ⟨hR.keep (fun g e => by have := Option.some.inj e; omega) hk, hU.box h3.box (by decide) (by decide) (by decide) (by decide) hk, s3, (hk.block _ (blk_lt h3.o0) (fun e => by have := Option.some.inj e; omega)).trans h3.o0, (hk.block _ (blk_lt h3.o1) (fun e => by have := Option.some.inj e; omega)).trans h3.o1, h3.bel.grown hk h3.bel.size (fun g e => by have := Option.some.inj e; omega), hlt, h.apt⟩⟩
theorem RU.mid (h : RU w a c zs q vt vd ve vg LT LD LE LG p b wr) (v0 v1 v2 v3 : Value) : RD (put4D wr w.heap.size v0 v1 v2 v3) (w.heap.size + 2) a c zs p b ∧ (put4D wr w.heap.size v0 v1 v2 v3).heap[w.heap.size + 1]? = some (.cells refZ 37 (0, 0)) := by
  obtain ⟨s0, k0⟩ := row_set h.o0 0 v0
  obtain ⟨s1, k1⟩ := row_set s0 1 v1
  obtain ⟨s2, k2⟩ := row_set s1 2 v2
  obtain ⟨s3, k3⟩ := row_set s2 3 v3
  have hk := grown_trans (grown_trans (grown_trans k0 k1) k2) k3
  refine ⟨⟨(hk.block _ (blk_lt h.rd.blk) (fun e => by have := Option.some.inj e; omega)).trans h.rd.blk, h.rd.nz, ?_, h.rd.old, h.rd.cap, h.rd.few, h.rd.at_⟩, (hk.block _ (blk_lt h.o1) (fun e => by have := Option.some.inj e; omega)).trans h.o1⟩
  refine lies_grown h.rd.lies (fun x hx => ⟨Nat.lt_trans (h.rd.old x hx) (blk_lt h.rd.blk), fun e => ?_⟩) hk
  exact h.apt x hx (Option.some.inj e).symm
structure BD (zs : List Int) (LT LD : List (Itm × Value)) (p : Nat) (b : Rfu) : Prop where
  eb : b = (rdD zs).2.2.2
  ok : b = none → WOk (uOf LT LD [] []) ∧ p = (rdD zs).2.2.1 ∧ (rdD zs).2.1 = nmTD LT LD ∧ TD zs LT LD
theorem bd_of {p1 : Nat} {b1 : Rfu} (hh : headF zs = (5, none)) (h1 : b1 = (rdItems zs 0 8192 (labN (([] : List (Itm × Value)).map (·.1))) 5 none).2.2.2) (h2 : (rdItems zs 0 8192 (labN (([] : List (Itm × Value)).map (·.1))) 5 none).2.2.2 = none → WOk (uOf LT [] [] []) ∧ LT.map (·.1) = (rdItems zs 0 8192 (labN (([] : List (Itm × Value)).map (·.1))) 5 none).1 ∧ p1 = (rdItems zs 0 8192 (labN (([] : List (Itm × Value)).map (·.1))) 5 none).2.2.1 ∧ (rdItems zs 0 8192 (labN (([] : List (Itm × Value)).map (·.1))) 5 none).2.1 = labN (LT.map (·.1)))
    (h3 : b = (rdItems zs 1 (8192 - (LT.length : Int)) (labN (LT.map (·.1)) ++ labN (([] : List (Itm × Value)).map (·.1))) p1 b1).2.2.2) (h4 : (rdItems zs 1 (8192 - (LT.length : Int)) (labN (LT.map (·.1)) ++ labN (([] : List (Itm × Value)).map (·.1))) p1 b1).2.2.2 = none → WOk (uOf LT LD [] []) ∧ LD.map (·.1) = (rdItems zs 1 (8192 - (LT.length : Int)) (labN (LT.map (·.1)) ++ labN (([] : List (Itm × Value)).map (·.1))) p1 b1).1 ∧ p = (rdItems zs 1 (8192 - (LT.length : Int)) (labN (LT.map (·.1)) ++ labN (([] : List (Itm × Value)).map (·.1))) p1 b1).2.2.1 ∧ (rdItems zs 1 (8192 - (LT.length : Int)) (labN (LT.map (·.1)) ++ labN (([] : List (Itm × Value)).map (·.1))) p1 b1).2.1 = labN (LT.map (·.1)) ++ labN (LD.map (·.1))) : BD zs LT LD p b := by
  have eT : rdItems zs 0 8192 (labN (([] : List (Itm × Value)).map (·.1))) 5 none = rdT zs := by
    unfold rdT
    rw [hh]
    rfl
  rw [eT] at h1 h2
  cases hb : b1 with
  | some f =>
    have e1 : (rdD zs).2.2.2 = some f := by
      unfold rdD rD
      rw [← h1, hb]
      exact rdItems_s _ _ _
    have e2 : b = some f := by rw [h3, hb]; exact rdItems_s _ _ _
    exact ⟨by rw [e1, e2], fun h => by rw [e2] at h; cases h⟩
  | none =>
    obtain ⟨t1, t2, t3, t4⟩ := h2 (by rw [← h1, hb])
    have eD : rdItems zs 1 (8192 - (LT.length : Int)) (labN (LT.map (·.1)) ++ labN (([] : List (Itm × Value)).map (·.1))) p1 b1 = rdD zs := by
      unfold rdD rD
      rw [t3, t4, ← h1, ← t2, List.length_map, show labN (([] : List (Itm × Value)).map (·.1)) = [] from rfl, List.append_nil]
    rw [eD] at h3 h4
    refine ⟨h3, fun h => ?_⟩
    obtain ⟨u1, u2, u3, u4⟩ := h4 (by rw [← h3]; exact h)
    exact ⟨u1, u3, u4, t2, u2⟩
theorem SE.start (h : RU w a c zs q vt vd (.slice none 0 0) (.slice none 0 0) LT LD [] [] p b wr) (hb : BD zs LT LD p b) {n0 : Nat} (hn : ndV zs p 2 b = (n0 : Int)) (hg : wr.grownBy w1 (some (w.heap.size + 2))) {b2 : Rfu} (hb2 : b2 = manyB n0 8192 p (ndB zs p 2 b)) (hR : RD w1 (w.heap.size + 2) a c zs (ndP zs p 2 b) b2) : SE w a c zs q vt vd LT LD n0 [] (ndP zs p 2 b) b2 (.slice none 0 0) w1 := by
  refine ⟨h.num hg hR, fun h0 => ?_, fun f hf => ?_⟩
  · rw [h0] at hb2
    obtain ⟨q1, q2⟩ := manyB_none hb2.symm
    rw [ndB_eq] at q1
    have hbn := rdB_back 2 q1
    obtain ⟨t1, t2, t3, t4⟩ := hb.ok hbn
    rw [hbn] at hn q1 ⊢
    have e1 : rdV zs p 2 = (n0 : Int) := hn
    refine ⟨t1, ?_, by simp; omega, t4⟩
    unfold rdE rE rdEqus
    rw [← hb.eb, hbn, ← t2, t3, e1, Int.toNat_natCast, q1, show manyB (n0 : Int) 8192 p none = none from by unfold manyB; rw [if_neg (by omega)]]
    simp
    rfl
  · rw [hf, ndB_eq] at hb2
    have e2 : manyB (rdV zs (rdD zs).2.2.1 2) 8192 (rdD zs).2.2.1 (rdB zs (rdD zs).2.2.1 2 (rdD zs).2.2.2) = some f := by
      cases hbb : b with
      | some f2 =>
        rw [hbb, rdB_s, manyB_s] at hb2
        rw [← hb.eb, hbb, rdB_s, manyB_s]
        exact hb2.symm
      | none =>
        obtain ⟨t1, t2, t3, t4⟩ := hb.ok hbb
        rw [hbb] at hb2 hn
        have e1 : rdV zs p 2 = (n0 : Int) := hn
        rw [← hb.eb, hbb, ← t2, e1]
        exact hb2.symm
    unfold rdE rE rdEqus
    rw [e2]
    exact rdEqLoop_s _ _ _
theorem SG.start {k : Nat} {L : List (Eqv × Value)} (h : SE w a c zs q vt vd LT LD k L p b v wr) (hk : b = none → k = 0) {n0 : Nat} (hn : ndV zs p 2 b = (n0 : Int)) (hn1 : n0 ≤ 65535) (hg : wr.grownBy w1 (some (w.heap.size + 2))) (hR : RD w1 (w.heap.size + 2) a c zs (ndP zs p 2 b) (ndB zs p 2 b)) : SG w a c zs q vt vd v LT LD L n0 [] (ndP zs p 2 b) (ndB zs p 2 b) (.slice none 0 0) w1 := by
  refine ⟨h.ru.num hg hR, fun h0 => ?_, fun f hf => ?_⟩
  · rw [ndB_eq] at h0
    have hbn := rdB_back 2 h0
    obtain ⟨t1, t2, t3, t4⟩ := h.ok hbn
    rw [hk hbn, rdEqLoop] at t2
    rw [hbn] at hn h0 ⊢
    have e1 : rdV zs p 2 = (n0 : Int) := hn
    refine ⟨t1, ?_, by simp; omega, t4, by rw [← t2]⟩
    unfold rdG rG rdGlobs
    rw [← t2]
    dsimp only
    rw [e1, Int.toNat_natCast, h0]
    rfl
  · rw [ndB_eq] at hf
    unfold rdG rG rdGlobs
    cases hbb : b with
    | some f2 =>
      rw [hbb, rdB_s] at hf
      rw [h.bad f2 hbb, rdB_s, hf]
      exact rdGlLoop_s _ _ _ _
    | none =>
      obtain ⟨t1, t2, t3, t4⟩ := h.ok hbb
      rw [hk hbb, rdEqLoop] at t2
      rw [hbb] at hf
      rw [← t2]
      dsimp only
      rw [hf]
      exact rdGlLoop_s _ _ _ _
theorem SG.end {k : Nat} {L : INm} (h : SG w a c zs q vt vd ve LT LD LE k L p none v wr) (hk : k = 0) : rdBad zs = (if p < zs.length then some ((p : Int), 14) else none) ∧ uOf LT LD LE L = rdU zs := by
  obtain ⟨t1, t2, t3, t4, t5⟩ := h.ok rfl
  rw [hk, rdGlLoop] at t2
  constructor
  · unfold rdBad tailB
    rw [← t2]
    rfl
  · unfold rdU
    rw [← t2, ← t4.t, ← t4.d, ← t5]
end
end Go.Proofs.YtmndccbeddaphaaGreatDoor
