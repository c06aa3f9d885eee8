/- The document's reader of objects: section, of Text. -/
import Derived.Test.YtmndccbeddaphaaGreatDoorDd5
namespace Go.Proofs.YtmndccbeddaphaaGreatDoor
open Go.ChangeShapes Go.WideShapes Go.ChangeAt Go.RowKit Go.Sort
set_option linter.unusedVariables false
set_option linter.unusedSimpArgs false
set_option maxRecDepth 100000
section
variable {w w' : World} {r : Nat} {a : Option Addr} {c : Nat} {zs : List Int} {p : Nat} {bad : Rfu}
structure ST (w : World) (r : Nat) (a : Option Addr) (c : Nat) (zs : List Int) (R : RdI) (k : Nat) (L : List (Itm × Value)) (p : Nat) (b : Rfu) (v : Value) (wr : World) : Prop where
  rd : RD wr r a c zs p b
  ul : UL (r + 1) wr v (.slice none 0 0) (.slice none 0 0) (.slice none 0 0) L [] [] []
  box : wr.heap[w.heap.size]? = some (.cells #[v, .slice none 0 0, .slice none 0 0, .slice none 0 0] 30 (0, 0))
  out : wr.heap[w.heap.size + 1]? = some (.cells uZ 30 (0, 0))
  gr : w.grownBy wr (some r)
  new : ∀ g, v.ownBlock = some g → w.heap.size ≤ g
  ok : b = none → WOk (uOf L [] [] []) ∧ rdItLoop zs 0 k (L.map (·.1)) (labN (L.map (·.1))) p none = R ∧ 0 + L.length + k ≤ 8192
  bad : ∀ f, b = some f → R.2.2.2 = some f
  lt : r < w.heap.size
theorem ST.next {R : RdI} {k : Nat} {L : List (Itm × Value)} {v v' : Value} {wr w2 w4 : World} {x : Itm} {vx : Value} {p' : Nat} (h : ST w r a c zs R (k + 1) L p none v wr) (g2 : wr.grownBy w2 (some r)) (ho2 : w2.ownsRow wr.heap.size 107 2 vx x.e.terms.length (rowT x.e.terms)) (hR2 : RD w2 r a c zs p' (itD zs p)) (hx : itD zs p = none → x = (itR zs p none).1 ∧ p' = (itR zs p none).2.1) (o1 o2 : Obj)
    (ho4 : w4.ownsRow (r + 1) 86 10 v' (L.length + 1) (rowI L ++ (itmCells x vx).toList)) (hg4 : ((w2.alloc o1).alloc o2).grownBy w4 v.ownBlock) (hw4 : v'.ownBlock = v.ownBlock ∨ v'.ownBlock = some ((w2.alloc o1).alloc o2).heap.size) :
    w4.heap[w.heap.size]? = some (.cells #[v, .slice none 0 0, .slice none 0 0, .slice none 0 0] 30 (0, 0)) ∧ RD (w4.setCell ⟨w.heap.size, 0, none⟩ v') r a c zs p' (itD zs p) ∧ UL (r + 1) (w4.setCell ⟨w.heap.size, 0, none⟩ v') v' (.slice none 0 0) (.slice none 0 0) (.slice none 0 0) (L ++ [(x, vx)]) [] [] [] ∧ (w4.setCell ⟨w.heap.size, 0, none⟩ v').heap[w.heap.size]? = some (.cells #[v', .slice none 0 0, .slice none 0 0, .slice none 0 0] 30 (0, 0)) ∧ (itD zs p = none → HeldU (uOf (L ++ [(x, vx)]) [] [] [])) ∧
    ∀ w5, (w4.setCell ⟨w.heap.size, 0, none⟩ v').grownBy w5 (some r) → (∀ n, RightN (uOf (L ++ [(x, vx)]) [] [] []) n → RD w5 r a c zs p' (gdB (itD zs p) (p : Int) n)) → ST w r a c zs R k (L ++ [(x, vx)]) p' (itB (itR zs p none).1 0 (labN (L.map (·.1))) p (itR zs p none).2.2) v' w5 := by
  have hlt := h.lt
  have hz := h.rd.lies.1
  have hsz := h.gr.size
  obtain ⟨hW, hres, hlen⟩ := h.ok rfl
  have hB := chn (below_alloc w2 o1) (below_alloc (w2.alloc o1) o2)
  have u2 := (h.ul.low g2 (Nat.lt_succ_self r)).below hB
  have x2 := own_keptB (own_weaken ho2 (show r + 1 ≤ wr.heap.size by omega)) hB
  have u4 := u2.pushT x2 ho4 hg4 hw4
  have b2 := (g2.block _ (blk_lt h.box) (fun e => by have := Option.some.inj e; omega)).trans h.box
  have b2' := (hB.block _ (blk_lt b2)).trans b2
  have c2 := (g2.block _ (blk_lt h.out) (fun e => by have := Option.some.inj e; omega)).trans h.out
  have c2' := (hB.block _ (blk_lt c2)).trans c2
  have hvb : ∀ {b : Nat} {cs : Array Value}, ((w2.alloc o1).alloc o2).heap[b]? = some (.cells cs 30 (0, 0)) → some b ≠ v.ownBlock := fun hb e => blk_other u2.t.row hb (by decide) e.symm
  have b4 := (hg4.block _ (blk_lt b2') (hvb b2')).trans b2'
  have c4 := (hg4.block _ (blk_lt c2') (hvb c2')).trans c2'
  obtain ⟨s5, k5⟩ := row_set b4 0 v'
  have u5 := u4.box b4 (by decide) (by decide) (by decide) (by decide) k5
  have c5 := (k5.block _ (blk_lt c4) (fun e => by have := Option.some.inj e; omega)).trans c4
  have hvn : ∀ g, v.ownBlock = some g → r < g := fun g hg => by have := h.new g hg; omega
  have r4 := ((hR2.below hB).keep hvn hg4).keep (fun g e => by have := Option.some.inj e; omega) k5
  have g5 := grown_new (grown_new (grown_new (grown_trans h.gr g2) (grown_of_below hB) (fun g e => by cases e)) hg4 h.new) k5 (fun g e => by have := Option.some.inj e; omega)
  have hn5 : ∀ g, v'.ownBlock = some g → w.heap.size ≤ g := fun g hg => by
    rcases hw4 with hw | hw
    · exact h.new g (by rw [← hw]; exact hg)
    · rw [hw] at hg
      have e := Option.some.inj hg
      have := hB.size
      have := g2.size
      omega
  have hl1 : (L.map (·.1)).length = L.length := List.length_map _
  have hmap : (L ++ [(x, vx)]).map (·.1) = L.map (·.1) ++ [x] := by simp
  have hheld : itD zs p = none → HeldU (uOf (L ++ [(x, vx)]) [] [] []) := fun hd => by
    have hh := (itR_held hz (itD_none hd)).1
    rw [← (hx hd).1] at hh
    have hu := hW.held
    refine ⟨⟨?_, ?_⟩, hu.data, hu.equs, hu.globs⟩
    · show ((L ++ [(x, vx)]).map (·.1)).length ≤ _
      rw [hmap, List.length_append, hl1]
      simp
      omega
    · show ∀ y ∈ (L ++ [(x, vx)]).map (·.1), _
      rw [hmap]
      exact mem_snoc hu.text.2 hh
  refine ⟨b4, r4, u5, s5, hheld, fun w5 g6 hR6 => ?_⟩
  obtain ⟨n, hn⟩ := rightN_ex (uOf (L ++ [(x, vx)]) [] [] [])
  have h6 := hR6 n hn
  have hn' : itD zs p = none → ((n = 0 ↔ okI (itR zs p none).1 0 = true ∧ ¬ ((itR zs p none).1.kind = 1 ∧ (itR zs p none).1.name ∈ (labN (L.map (·.1))))) ∧ (n = 0 → WOk (uOf (L ++ [(x, vx)]) [] [] []))) := fun hd => by
    have hF := (itR_held hz (itD_none hd)).2
    have hn2 : RightN ⟨L.map (·.1) ++ [(itR zs p none).1], [], [], []⟩ n := by
      rw [← (hx hd).1, ← hmap]
      exact hn
    have := text_next hW hF (by omega) hn2
    rw [← (hx hd).1, ← hmap] at this
    rw [← (hx hd).1]
    exact this
  have e6 := grow_item (g := (labN (L.map (·.1)))) (sec := 0) (p := p) (zs := zs) (n := n) (fun hd => (hn' hd).1)
  rw [e6] at h6
  have hst : rdItLoop zs 0 k (L.map (·.1) ++ [(itR zs p none).1]) (itG (itR zs p none).1 0 (labN (L.map (·.1)))) (itR zs p none).2.1 (itB (itR zs p none).1 0 (labN (L.map (·.1))) p (itR zs p none).2.2) = R := by
    rw [← hres, rdItLoop]
    rfl
  refine ⟨h6, u5.low g6 (Nat.lt_succ_self r), (g6.block _ (blk_lt s5) (fun e => by have := Option.some.inj e; omega)).trans s5, (g6.block _ (blk_lt c5) (fun e => by have := Option.some.inj e; omega)).trans c5, grown_trans g5 g6, hn5, fun hb => ?_, fun f hf => ?_, hlt⟩
  · rw [← e6] at hb
    have hd : itD zs p = none := by
      cases hq : itD zs p with
      | none => rfl
      | some f => rw [hq] at hb; cases hb
    have hn0 : n = 0 := by
      rw [hd] at hb
      unfold gdB at hb
      rw [if_neg (by simp)] at hb
      by_cases h0 : n = 0
      · exact h0
      · rw [if_neg h0] at hb; cases hb
    obtain ⟨k1, k2⟩ := hn' hd
    obtain ⟨ok1, ok2⟩ := k1.1 hn0
    have hW' := k2 hn0
    refine ⟨hW', ?_, ?_⟩
    · rw [← hst, e6.symm.trans hb, hmap, (hx hd).1, (hx hd).2]
      congr 1
      rw [itG_eq ok1]
      · rw [labN_snoc]
      · have := hW'.once
        have e9 : (uOf (L ++ [(x, vx)]) [] [] []).names = labN (L.map (·.1)) ++ (if (itR zs p none).1.kind = 1 then [(itR zs p none).1.name] else []) := by unfold UVal.names; rw [show (uOf (L ++ [(x, vx)]) [] [] []).text = L.map (·.1) ++ [x] from hmap, labN_snoc, (hx hd).1]; simp [show labN [] = [] from rfl]
        rw [e9] at this
        exact this
    · rw [List.length_append]
      simp
      omega
  · rw [← hst, hf]
    exact rdItLoop_s _ _ _ _
def SeT (w : World) (r : Nat) (a : Option Addr) (c : Nat) (zs : List Int) (R : RdI) (e : Ending) (w' : World) : Prop :=
  ∃ v L p', e = .returned (.agg #[v, .slice none 0 0, .slice none 0 0, .slice none 0 0]) ∧ w.grownBy w' (some r) ∧ UL (r + 1) w' v (.slice none 0 0) (.slice none 0 0) (.slice none 0 0) L [] [] [] ∧ RD w' r a c zs p' R.2.2.2 ∧ (R.2.2.2 = none → WOk (uOf L [] [] []) ∧ L.map (·.1) = R.1 ∧ p' = R.2.2.1 ∧ R.2.1 = (labN (L.map (·.1))))
abbrev put4T (w : World) (g : Nat) (v0 v1 v2 v3 : Value) : World := (((w.setCell ⟨g, 0, none⟩ v0).setCell ⟨g, 1, none⟩ v1).setCell ⟨g, 2, none⟩ v2).setCell ⟨g, 3, none⟩ v3
theorem ST.end {R : RdI} {k : Nat} {L : List (Itm × Value)} {v : Value} {b : Rfu} {wr : World} (h : ST w r a c zs R k L p b v wr) (hk : b = none → k = 0) : (put4T wr (w.heap.size + 1) v (.slice none 0 0) (.slice none 0 0) (.slice none 0 0)).heap[w.heap.size + 1]? = some (.cells #[v, .slice none 0 0, .slice none 0 0, .slice none 0 0] 30 (0, 0)) ∧ SeT w r a c zs R (.returned (.agg #[v, .slice none 0 0, .slice none 0 0, .slice none 0 0])) (put4T wr (w.heap.size + 1) v (.slice none 0 0) (.slice none 0 0) (.slice none 0 0)) := by
  have hlt := h.lt
  obtain ⟨s0, k0⟩ := row_set h.out 0 v
  obtain ⟨s1, k1⟩ := row_set s0 1 (.slice none 0 0)
  obtain ⟨s2, k2⟩ := row_set s1 2 (.slice none 0 0)
  obtain ⟨s3, k3⟩ := row_set s2 3 (.slice none 0 0)
  have hkk := grown_trans (grown_trans (grown_trans k0 k1) k2) k3
  have hR : R.2.2.2 = b ∧ (b = none → WOk (uOf L [] [] []) ∧ L.map (·.1) = R.1 ∧ p = R.2.2.1 ∧ R.2.1 = (labN (L.map (·.1)))) := by
    cases hb : b with
    | some f => exact ⟨h.bad f hb, fun e => by cases e⟩
    | none =>
      obtain ⟨hW, hres, _⟩ := h.ok hb
      rw [hk hb, rdItLoop] at hres
      rw [← hres]
      exact ⟨rfl, fun _ => ⟨hW, rfl, rfl, rfl⟩⟩
  refine ⟨s3, v, L, p, rfl, grown_new h.gr hkk (fun g e => by have := Option.some.inj e; omega), h.ul.box h.out (by decide) (by decide) (by decide) (by decide) hkk, ?_, ?_⟩
  · rw [hR.1]
    exact h.rd.keep (fun g e => by have := Option.some.inj e; omega) hkk
  · rw [hR.1]
    exact hR.2
set_option maxHeartbeats 16000000 in
theorem sectionT (h : RD w r a c zs p bad) (hU : UL (r + 1) w (.slice none 0 0) (.slice none 0 0) (.slice none 0 0) (.slice none 0 0) [] [] [] []) (hW : bad = none → WOk (uOf [] [] [] [])) (hM : bad = none → 0 ≤ 8192) :
    Calls Tryz.prog 41 #[.pointer (some ⟨r, 0, none⟩), .agg #[.slice none 0 0, .slice none 0 0, .slice none 0 0, .slice none 0 0], .bool false] w fun e w' => SeT w r a c zs (rdItems zs 0 8192 (labN (([] : List (Itm × Value)).map (·.1))) p bad) e w' := by
  obtain ⟨i1, hi1, hy0, hy1, hy2⟩ := info_parts info91
  have hlt := blk_lt h.blk
  have hz := h.lies.1
  have hat := h.at_
  have hbd : 0 ≤ ndV zs p 2 bad ∧ ndV zs p 2 bad ≤ 65535 := by
    have := rdV_bd hz p
    unfold ndV
    split <;> omega
  have hA : RD ((w.alloc (.cells uZ 30)).alloc (.cells uZ 30)) r a c zs p bad := (h.below (below_alloc w _)).below (below_alloc _ _)
  have c1 := (four_readD hA.blk).2.1
  have h42 := Hid.intro (numD2 hA)
  obtain ⟨n0, hn0⟩ : ∃ n0 : Nat, ndV zs p 2 bad = (n0 : Int) := ⟨(ndV zs p 2 bad).toNat, by omega⟩
  have b0 := heap_alloc_new w (.cells uZ 30)
  have b0' := keepB b0 (.cells uZ 30)
  have b1 := heap_alloc_new (w.alloc (.cells uZ 30)) (.cells uZ 30)
  rw [show (w.alloc (.cells uZ 30)).heap.size = w.heap.size + 1 by simp] at b1
  have hbx : Hid (∀ w1, ((w.alloc (.cells uZ 30)).alloc (.cells uZ 30)).grownBy w1 (some r) → w1.heap[w.heap.size]? = some (.cells uZ 30 (0, 0)) ∧ w1.heap[w.heap.size + 1]? = some (.cells uZ 30 (0, 0))) := fun w1 hg => ⟨(hg.block _ (blk_lt b0') (fun e => by have := Option.some.inj e; omega)).trans b0', (hg.block _ (blk_lt b1) (fun e => by have := Option.some.inj e; omega)).trans b1⟩
  have hst : Hid (∀ w1 b2, ((w.alloc (.cells uZ 30)).alloc (.cells uZ 30)).grownBy w1 (some r) → b2 = manyB n0 8192 p (ndB zs p 2 bad) → RD w1 r a c zs (ndP zs p 2 bad) b2 → ST w r a c zs (rdItems zs 0 8192 (labN (([] : List (Itm × Value)).map (·.1))) p bad) n0 [] (ndP zs p 2 bad) b2 (.slice none 0 0) w1) := fun w1 b2 hg hb2 hR => by
    have hgw : w.grownBy ((w.alloc (.cells uZ 30)).alloc (.cells uZ 30)) (some r) := grown_trans (World.grownBy_alloc w _ (some r)) (World.grownBy_alloc _ _ (some r))
    obtain ⟨x1, x2⟩ := hbx.out w1 hg
    refine ⟨hR, ((hU.below (below_alloc w _)).below (below_alloc _ _)).low hg (Nat.lt_succ_self r), x1, x2, grown_trans hgw hg, (fun g e => by cases e), fun hb => ?_, fun f hf => ?_, hlt⟩
    · rw [hb] at hb2
      obtain ⟨q1, q2⟩ := manyB_none hb2.symm
      rw [ndB_eq] at q1
      obtain rfl := rdB_back 2 q1
      have e1 : rdV zs p 2 = (n0 : Int) := hn0
      refine ⟨hW rfl, ?_, ?_⟩
      · unfold rdItems
        rw [e1, Int.toNat_natCast, q1, show manyB (n0 : Int) 8192 p none = none from by unfold manyB; rw [if_neg (by omega)]]
        rfl
      · simp
        omega
    · rw [hf] at hb2
      rw [ndB_eq] at hb2
      unfold rdItems
      have e2 : manyB (rdV zs p 2) 8192 p (rdB zs p 2 bad) = some f := by
        cases hbd2 : bad with
        | some f2 =>
          rw [hbd2, rdB_s, manyB_s] at hb2
          rw [rdB_s, manyB_s]
          exact hb2.symm
        | none =>
          rw [hbd2] at hb2 hn0
          have e1 : rdV zs p 2 = (n0 : Int) := hn0
          rw [e1]
          exact hb2.symm
      rw [e2]
      exact rdItLoop_s _ _ _ _
  rw [hn0] at h42 hbd
  have hn1 : n0 ≤ 65535 := by omega
  have hM2 : Hid (ndB zs p 2 bad = none → 0 ≤ 8192) := fun h0 => hM (by rw [ndB_eq] at h0; exact rdB_back 2 h0)
  clear hM
  generalize rdItems zs 0 8192 (labN (([] : List (Itm × Value)).map (·.1))) p bad = R at *
  generalize ndP zs p 2 bad = P1 at *
  generalize ndB zs p 2 bad = B1 at *
  clear hn0 hbd hA h hU hW b0 b0' b1 hat
  cases B1 with
  | some f =>
    have hb2 : Hid (some f = manyB n0 8192 p (some f)) := (manyB_s _ _).symm
    go_enter Tryz.func41, Tryz.ntmps41
    go_wp2_with (go_at_call 42; (with_reducible refine (h42.out).mono ?_); rintro e w1 ⟨rfl, g1, hR1⟩; have hL := Hid.intro (hst.out w1 _ g1 hb2.out hR1); obtain ⟨c0, c1', c2, c3⟩ := four_readD hR1.blk; have hnz := hR1.nz f rfl; simp only [bdA, bdW, Option.getD_some] at c2 c3; obtain ⟨f1, f2⟩ := f; dsimp only at c2 c3 hnz; have hd2 : (f2 == 0) = false := (by simpa using hnz); obtain ⟨x1, x2⟩ := hbx.out w1 g1; obtain ⟨y0, y1, y2, y3⟩ := four_read x1; obtain ⟨z0, z1, z2, z3⟩ := four_read x2; have zf := fun j => frozen_of_row w1 (w.heap.size + 1) j _ 30 x2; clear g1 hR1 h42)
    all_goals first | omega | skip
    have hE := Hid.intro (hL.out.end (fun e => by cases e))
    clear hL hst hbx
    go_loopw [9] (fun v9 wr => v9 = .int .i64 0 ∧ wr = w1) (fun v9 _ => 0)
    case atStart => exact ⟨rfl, rfl⟩
    case round =>
      obtain ⟨rfl, rfl⟩ := hrel
      by_cases h00 : 0 < n0
      · go_wp2
        all_goals first | omega | skip
        obtain ⟨m0, m1, m2, m3⟩ := four_read hE.out.1
        refine bodyPost_ret (by simp [results, Tryz.results41, go_sem, m0, m1, m2, m3]; try rfl) rfl ?_
        exact hE.out.2
      · obtain rfl : n0 = 0 := by omega
        go_wp2
        all_goals first | omega | skip
        obtain ⟨m0, m1, m2, m3⟩ := four_read hE.out.1
        refine bodyPost_ret (by simp [results, Tryz.results41, go_sem, m0, m1, m2, m3]; try rfl) rfl ?_
        exact hE.out.2
  | none =>
    have hM := hM2.out rfl
    by_cases hmany : (n0 : Int) + 0 > 8192
    · have hb2 : Hid (some ((p : Int), 4) = manyB n0 8192 p none) := by show _ = _; unfold manyB; rw [if_pos (by omega)]; rfl
      go_enter Tryz.func41, Tryz.ntmps41
      go_wp2_with (first
        | (go_at_call 42; (with_reducible refine (h42.out).mono ?_); rintro e w1 ⟨rfl, g1, hR1⟩; obtain ⟨c0, c1', c2, c3⟩ := four_readD hR1.blk; simp only [bdA, bdW, Option.getD_none] at c2 c3; obtain ⟨x1, x2⟩ := hbx.out w1 g1; obtain ⟨y0, y1, y2, y3⟩ := four_read x1; replace g1 := Hid.intro g1; replace hR1 := Hid.intro hR1; clear h42 x1 x2)
        | (go_at_call 43; (with_reducible refine (refuseD_is hR1.out (p : Int) 4 (by decide)).mono ?_); rintro e w2 ⟨rfl, g2, hR2⟩; have hL := Hid.intro (hst.out w2 _ (grown_trans g1.out g2) hb2.out hR2); clear c0 c1' c2 c3 y0 y1 y2 y3; obtain ⟨c0, c1', c2, c3⟩ := four_readD hR2.blk; simp only [bdA, bdW, firstR, Option.getD_some] at c2 c3; obtain ⟨x1, x2⟩ := hbx.out w2 (grown_trans g1.out g2); obtain ⟨y0, y1, y2, y3⟩ := four_read x1; obtain ⟨z0, z1, z2, z3⟩ := four_read x2; have zf := fun j => frozen_of_row w2 (w.heap.size + 1) j _ 30 x2; clear g1 hR1 g2 hR2))
      all_goals first | omega | skip
      have hE := Hid.intro (hL.out.end (fun e => by cases e))
      clear hL hst hbx
      go_loopw [9] (fun v9 wr => v9 = .int .i64 0 ∧ wr = w2) (fun v9 _ => 0)
      case atStart => exact ⟨rfl, rfl⟩
      case round =>
        obtain ⟨rfl, rfl⟩ := hrel
        go_wp2
        all_goals first | omega | skip
        obtain ⟨m0, m1, m2, m3⟩ := four_read hE.out.1
        refine bodyPost_ret (by simp [results, Tryz.results41, go_sem, m0, m1, m2, m3]; try rfl) rfl ?_
        exact hE.out.2
    · have hb2 : Hid (none = manyB n0 8192 p none) := by show _ = _; unfold manyB; rw [if_neg (by omega)]
      have hmle : n0 + 0 ≤ 8192 := by omega
      go_enter Tryz.func41, Tryz.ntmps41
      go_wp2_with (go_at_call 42; (with_reducible refine (h42.out).mono ?_); rintro e w1 ⟨rfl, g1, hR1⟩; have hL0 := Hid.intro (hst.out w1 _ g1 hb2.out hR1); obtain ⟨c0, c1', c2, c3⟩ := four_readD hR1.blk; simp only [bdA, bdW, Option.getD_none] at c2 c3; obtain ⟨x1, x2⟩ := hbx.out w1 g1; obtain ⟨y0, y1, y2, y3⟩ := four_read x1; clear g1 hR1 h42 x1 x2)
      all_goals first | omega | skip
      clear hst hbx c0 c1' c2 c3 y0 y1 y2 y3 c1
      go_loopw [9] (fun v9 wr => ∃ (j : Nat) (L : List (Itm × Value)) (q : Nat) (b : Rfu) (v : Value), j ≤ n0 ∧ L.length ≤ j ∧ v9 = .int .i64 (j : Int) ∧ Hid (ST w r a c zs R (n0 - j) L q b v wr)) (fun v9 _ => n0 - (intOf v9).toNat)
      case atStart => exact ⟨0, [], _, _, _, by omega, by simp, rfl, hL0⟩
      case round =>
        obtain ⟨j, L, q, b, v, hj, hLj, rfl, hL⟩ := hrel
        clear hL0
        obtain ⟨c0, c1, c2, c3⟩ := four_readD hL.out.rd.blk
        obtain ⟨va9, vc9, rfl⟩ := own_slice hL.out.ul.t.row
        obtain ⟨l9, hl9⟩ : ∃ l9, l9 = L.length := ⟨_, rfl⟩
        by_cases hjn : j < n0
        · cases b with
          | some f =>
            have hE := Hid.intro (hL.out.end (fun e => by cases e))
            have hnz := hL.out.rd.nz f rfl
            simp only [bdA, bdW, Option.getD_some] at c2 c3
            obtain ⟨f1, f2⟩ := f
            dsimp only at c2 c3 hnz
            have hd2 : (f2 == 0) = false := by simpa using hnz
            obtain ⟨y0, y1, y2, y3⟩ := four_read hL.out.box
            obtain ⟨z0, z1, z2, z3⟩ := four_read hL.out.out
            have zf := fun j => frozen_of_row wr (w.heap.size + 1) j _ 30 hL.out.out
            clear hL hl9
            go_wp2
            all_goals first | omega | skip
            obtain ⟨m0, m1, m2, m3⟩ := four_read hE.out.1
            refine bodyPost_ret (by simp [results, Tryz.results41, go_sem, m0, m1, m2, m3]; try rfl) rfl ?_
            exact hE.out.2
          | none =>
            simp only [bdA, bdW, Option.getD_none] at c2 c3
            have hk : n0 - j = (n0 - (j + 1)) + 1 := by omega
            have hLk := hL.out
            rw [hk] at hLk
            have h88 := Hid.intro (itemD_is hLk.rd)
            unfold ItDo at h88
            have hx0 := hLk.box
            rw [← hl9] at hx0
            obtain ⟨y0, y1, y2, y3⟩ := four_read hx0
            have hmid : Hid (∀ w2 o1 o2, wr.grownBy w2 (some r) → (w2.heap[w.heap.size]? = some (.cells #[.slice va9 l9 vc9, .slice none 0 0, .slice none 0 0, .slice none 0 0] 30 (0, 0))) ∧ ((w2.alloc o1).alloc o2).ownsRow (r + 1) 86 10 (.slice va9 l9 vc9) l9 (rowI L) ∧ r + 1 ≤ ((w2.alloc o1).alloc o2).heap.size ∧ w.heap.size < w2.heap.size) := fun w2 o1 o2 hg => by
              have q0 := hLk.lt
              have q1 := (hg.block _ (blk_lt hx0) (fun e => by have := Option.some.inj e; omega)).trans hx0
              have q2 := (((hLk.ul.low hg (Nat.lt_succ_self r)).below (below_alloc w2 o1)).below (below_alloc _ o2)).t.row
              rw [← hl9] at q2
              exact ⟨q1, q2, by have := blk_lt q1; simp; omega, blk_lt q1⟩
            have hnx : Hid (∀ w2 x vx p2 o1 o2 v4 w4, wr.grownBy w2 (some r) → w2.ownsRow wr.heap.size 107 2 vx x.e.terms.length (rowT x.e.terms) → RD w2 r a c zs p2 (itD zs q) → (itD zs q = none → x = (itR zs q none).1 ∧ p2 = (itR zs q none).2.1) → w4.ownsRow (r + 1) 86 10 v4 (l9 + 1) (rowI L ++ (itmCells x vx).toList) → ((w2.alloc o1).alloc o2).grownBy w4 (Value.slice va9 l9 vc9).ownBlock → (v4.ownBlock = (Value.slice va9 l9 vc9).ownBlock ∨ v4.ownBlock = some ((w2.alloc o1).alloc o2).heap.size) → _) := fun w2 x vx p2 o1 o2 v4 w4 h1 h2 h3 h4 h5 h6 h7 => by
              rw [hl9] at h5 h6 h7
              exact hLk.next h1 h2 h3 h4 o1 o2 h5 h6 h7
            rw [← hl9] at hnx
            have hl10 : l9 ≤ 8192 := by omega
            generalize itB (itR zs q none).1 0 (labN (L.map (·.1))) q (itR zs q none).2.2 = B9 at *
            generalize itR zs q none = X9 at *
            generalize rowI L = RI at *
            clear hL hLk hk hl9 hx0
            go_wp2_with (first
              | (go_at_call 88; (with_reducible refine (h88.out).mono ?_); rintro e w2 ⟨x, vx, p2, rfl, g2, ho2, hR2, hx2⟩; obtain ⟨ax, cx, rfl⟩ := own_slice ho2; obtain ⟨tl, htl⟩ : ∃ tl, tl = x.e.terms.length := ⟨_, rfl⟩; have hxr := heap_alloc_new w2 (.cells (itmCells x (.slice ax x.e.terms.length cx)) 86); obtain ⟨p0, p1, p2', p3, p4, p5, p6, p7, p8, p9⟩ := rowIt hxr; have hmm := Hid.intro (fun o2 => hmid.out w2 (.cells (itmCells x (.slice ax x.e.terms.length cx)) 86) o2 g2); have hm0 := keepB (hmm.out (.cells #[] 0)).1 (.cells (itmCells x (.slice ax x.e.terms.length cx)) 86); clear y0 y1 y2 y3; obtain ⟨y0, y1, y2, y3⟩ := four_read hm0; replace g2 := Hid.intro g2; replace ho2 := Hid.intro ho2; replace hR2 := Hid.intro hR2; replace hx2 := Hid.intro hx2; replace hm0 := Hid.intro hm0; clear h88 hxr)
              | (at_builtin; go_must (refine wpList_app rfl (.tmp 62) (.tmp 64) 26 rfl (r + 1) 86 i1 _ 10 104 Tryz.underlying26 hi1 hy0 hy1 hy2 rfl (by decide) (.slice va9 l9 vc9) l9 RI rfl (hmm.out _).2.1 (.slice (some ⟨w2.heap.size + 1, 0, none⟩) 1 1) 1 (itmCells x (.slice ax x.e.terms.length cx)).toList rfl (.inr ⟨_, _, rfl, cells_new2 w2 _ (itmCells x (.slice ax x.e.terms.length cx)) 86⟩) rfl (by simp [Value.oneCell']) (by unfold maxLen; omega) (by omega) (hmm.out _).2.2.1 ?_; intro v4 w4 ho4 hg4 hw4; obtain ⟨a4, c4, rfl⟩ := own_slice ho4; obtain ⟨n1, n2, n3, n4, n5, n6⟩ := hnx.out w2 x _ p2 _ _ _ w4 g2.out ho2.out hR2.out hx2.out ho4 hg4 hw4; clear y0 y1 y2 y3 p0 p1 p2' p3 p4 p5 p6 p7 p8 p9; obtain ⟨y0, y1, y2, y3⟩ := four_read n1; have yf := frozen_of_row w4 w.heap.size 0 _ 30 n1; obtain ⟨t0, t1, t2, t3⟩ := four_read n4; replace n2 := Hid.intro n2; replace n3 := Hid.intro n3; replace n5 := Hid.intro n5; replace n6 := Hid.intro n6; clear ho4 hg4 hw4 n1 n4 hmm hmid hnx g2 ho2 hR2 hx2 hm0))
              | (go_at_call 46; (with_reducible refine (growD_any n2.out (q : Int) n3.out n5.out).mono ?_); rintro e w5 ⟨rfl, g5, hR5⟩; have hn5 := Hid.intro (n6.out w5 g5 hR5); clear g5 hR5))
            all_goals first | omega | skip
            go_roundw
            case rel => exact ⟨j + 1, _, _, _, _, by omega, by simp; omega, by go_num, hn5⟩
            case measure => simp [intOf]; omega
        · obtain rfl : j = n0 := by omega
          have hE := Hid.intro (hL.out.end (fun _ => Nat.sub_self _))
          obtain ⟨y0, y1, y2, y3⟩ := four_read hL.out.box
          obtain ⟨z0, z1, z2, z3⟩ := four_read hL.out.out
          have zf := fun j => frozen_of_row wr (w.heap.size + 1) j _ 30 hL.out.out
          clear hL hl9
          go_wp2
          all_goals first | omega | skip
          obtain ⟨m0, m1, m2, m3⟩ := four_read hE.out.1
          refine bodyPost_ret (by simp [results, Tryz.results41, go_sem, m0, m1, m2, m3]; try rfl) rfl ?_
          exact hE.out.2
end
end Go.Proofs.YtmndccbeddaphaaGreatDoor
