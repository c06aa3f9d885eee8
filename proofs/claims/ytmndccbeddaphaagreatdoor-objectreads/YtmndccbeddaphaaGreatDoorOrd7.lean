/- object's reader: a name is given. -/
import Derived.Test.YtmndccbeddaphaaGreatDoorDd1
import Derived.Test.YtmndccbeddaphaaGreatDoorOcBook
import Derived.Test.YtmndccbeddaphaaGreatDoorOwr1
import Derived.Test.YtmndccbeddaphaaGreatDoorEr1
import Derived.Maps.OwnSet
import Derived.Maps.OwnOps
/- The document's reader of objects: lin. -/
namespace Go.Proofs.YtmndccbeddaphaaGreatDoor
open Go.ChangeShapes Go.WideShapes Go.ChangeAt Go.RowKit Go.Sort
set_option linter.unusedVariables false
set_option linter.unusedSimpArgs false
set_option maxRecDepth 100000
theorem f42_name : Tryz.f42.name ≠ "runtime.NumGoroutine" := by decide
theorem f42_body : Tryz.f42.body ≠ none := by simp [Tryz.f42]
section
variable {zs : List Int} {p : Nat} {f : Int × Int} {bad : Option (Int × Int)}
theorem rdB_s (wd : Nat) : rdB zs p wd (some f) = some f := by unfold rdB; split <;> rfl
theorem txB_s : txB zs p (some f) = some f := by unfold txB; split <;> rfl
theorem rdLoop_s (k : Nat) (acc : List Tm) : (rdLoop zs k acc p (some f)).2.2 = some f := by cases k <;> simp [rdLoop]
theorem rdTerms_s : (rdTerms zs p (some f)).2.2 = some f := by unfold rdTerms; rw [rdB_s]; exact rdLoop_s _ _
theorem liB_s : liB zs p (some f) = some f := by unfold liB; rw [rdTerms_s, rdB_s]
theorem ndB_eq (wd : Nat) : ndB zs p wd bad = rdB zs p wd bad := by
  cases bad with
  | none => rfl
  | some f => rw [rdB_s]; rfl
theorem getTE_two (hz : O.AreBytes zs) (hp : p ≤ zs.length) : O.getTE zs (p : Int) 65535 = 0 ∨ O.getTE zs (p : Int) 65535 = 10 := by
  have hb := getN_bd hz (p : Int)
  have he : O.getE zs (p : Int) 2 = 0 ∨ O.getE zs (p : Int) 2 = 10 := by
    unfold O.getE
    rw [show O.isW 2 = true from rfl, if_neg (by simp; omega)]
    split
    · exact .inr rfl
    · exact .inl rfl
  unfold O.getTE
  split
  · rw [if_neg (by omega)]
    split
    · exact .inr rfl
    · exact .inl rfl
  · next h => exact he.resolve_left h |> .inr
theorem tdB_eq (hz : O.AreBytes zs) (hp : p ≤ zs.length) : tdB zs p bad = txB zs p bad := by
  cases bad with
  | some f => rw [txB_s]; rfl
  | none =>
    unfold tdB txB
    rw [if_neg (by simp)]
    rcases getTE_two hz hp with h | h
    · rw [if_pos h, if_pos h]
    · rw [if_neg (by rw [h]; decide), if_neg (by rw [h]; decide), h]
      rfl
theorem rdB_back (wd : Nat) (h : rdB zs p wd bad = none) : bad = none := by
  cases bad with
  | none => rfl
  | some f => rw [rdB_s] at h; cases h
end
section
variable {w w' : World} {r : Nat} {a : Option Addr} {c : Nat} {zs : List Int} {p : Nat} {bad : Option (Int × Int)}
theorem RD.keep {k : Option Nat} (h : RD w r a c zs p bad) (hk : ∀ q, k = some q → r < q) (hg : w.grownBy w' k) : RD w' r a c zs p bad :=
  ⟨(hg.block r (blk_lt h.blk) (fun e => by have := hk _ e.symm; omega)).trans h.blk, h.nz, lies_grown h.lies (fun x hx => ⟨Nat.lt_trans (h.old x hx) (blk_lt h.blk), fun e => by have := hk _ e; have := h.old x hx; omega⟩) hg, h.old, h.cap, h.few, h.at_⟩
theorem numD2 (h : RD w r a c zs p bad) : Calls Tryz.prog 42 #[.pointer (some ⟨r, 0, none⟩), .int .i64 2] w fun e w' => e = .returned (.int .u32 (ndV zs p 2 bad)) ∧ w.grownBy w' (some r) ∧ RD w' r a c zs (ndP zs p 2 bad) (ndB zs p 2 bad) := numberD_is h 2 (.inr (.inl rfl))
theorem numD4 (h : RD w r a c zs p bad) : Calls Tryz.prog 42 #[.pointer (some ⟨r, 0, none⟩), .int .i64 4] w fun e w' => e = .returned (.int .u32 (ndV zs p 4 bad)) ∧ w.grownBy w' (some r) ∧ RD w' r a c zs (ndP zs p 4 bad) (ndB zs p 4 bad) := numberD_is h 4 (.inr (.inr rfl))
abbrev liZ : Array Value := #[.slice none 0 0, .int .u32 0]
abbrev wL (w : World) : World := (w.alloc (.cells liZ 84)).alloc (.cells liZ 84)
structure LD (w : World) (r : Nat) (a : Option Addr) (c : Nat) (zs : List Int) (R : List Tm × Nat × Option (Int × Int)) (k : Nat) (L : List Tm) (p : Nat) (b : Option (Int × Int)) (v : Value) (wr : World) : Prop where
  rd : RD wr r a c zs p b
  own : wr.ownsRow (w.heap.size + 2) 107 2 v L.length (rowT L)
  blk : wr.heap[w.heap.size + 1]? = some (.cells #[v, .int .u32 0] 84 (0, 0))
  out : wr.heap[w.heap.size]? = some (.cells liZ 84 (0, 0))
  gr : w.grownBy wr (some r)
  res : b = none → rdLoop zs k L p none = R
  bad : ∀ f, b = some f → R.2.2 = some f
  lt : r < w.heap.size
theorem LD.step {R : List Tm × Nat × Option (Int × Int)} {k : Nat} {L : List Tm} {b : Option (Int × Int)} {v : Value} {wr : World} (h : LD w r a c zs R k L p b v wr) {p' : Nat} {b' : Option (Int × Int)} (hg : wr.grownBy w' (some r)) (hR : RD w' r a c zs p' b') :
    w'.ownsRow (w.heap.size + 2) 107 2 v L.length (rowT L) ∧ w'.heap[w.heap.size + 1]? = some (.cells #[v, .int .u32 0] 84 (0, 0)) ∧ w'.heap[w.heap.size]? = some (.cells liZ 84 (0, 0)) ∧ w.grownBy w' (some r) := by
  have hlt := h.lt
  exact ⟨own_low h.own hg (by omega), (hg.block _ (blk_lt h.blk) (fun e => by have := Option.some.inj e; omega)).trans h.blk, (hg.block _ (blk_lt h.out) (fun e => by have := Option.some.inj e; omega)).trans h.out, grown_trans h.gr hg⟩
theorem LD.next {R : List Tm × Nat × Option (Int × Int)} {k : Nat} {L : List Tm} {v v' : Value} {wr w3 w4 : World} (h : LD w r a c zs R (k + 1) L p none v wr) (hg : wr.grownBy w3 (some r))
    (hR : RD w3 r a c zs (ndP zs (tdP zs p none) 4 (tdB zs p none)) (ndB zs (tdP zs p none) 4 (tdB zs p none))) (o : Obj)
    (ho : w4.ownsRow (w.heap.size + 2) 107 2 v' (L.length + 1) (rowT L ++ [.string (tdS zs p none), .int .u32 (ndV zs (tdP zs p none) 4 (tdB zs p none))])) (hg4 : (w3.alloc o).grownBy w4 v.ownBlock) :
    w4.heap[w.heap.size + 1]? = some (.cells #[v, .int .u32 0] 84 (0, 0)) ∧ LD w r a c zs R k (L ++ [⟨txL zs p, ndV zs (tdP zs p none) 4 (tdB zs p none)⟩]) (ndP zs (tdP zs p none) 4 (tdB zs p none)) (ndB zs (tdP zs p none) 4 (tdB zs p none)) v' (w4.setCell ⟨w.heap.size + 1, 0, none⟩ v') := by
  have hlt := h.lt
  obtain ⟨o1, o2, o3, o4⟩ := h.step hg hR
  have hB := below_alloc w3 o
  have hm := own_keptB o1 hB
  have hlo : ∀ g, v.ownBlock = some g → w.heap.size + 2 ≤ g := fun g hgg => (hm.lt g hgg).1
  have l1 : w.heap.size + 1 < (w3.alloc o).heap.size := by have := blk_lt o2; simp; omega
  have q1 : w4.heap[w.heap.size + 1]? = some (.cells #[v, .int .u32 0] 84 (0, 0)) := (hg4.block _ l1 (fun e => by have := hlo _ e.symm; omega)).trans ((hB.block _ (blk_lt o2)).trans o2)
  have q0 : w4.heap[w.heap.size]? = some (.cells liZ 84 (0, 0)) := (hg4.block _ (by omega) (fun e => by have := hlo _ e.symm; omega)).trans ((hB.block _ (blk_lt o3)).trans o3)
  obtain ⟨s1, k1⟩ := row_set q1 0 v'
  have hR4 := ((hR.below hB).keep (fun q hq => by have := hlo q hq; omega) hg4).keep (fun q hq => by have := Option.some.inj hq; omega) k1
  refine ⟨q1, hR4, ?_, s1, ?_, ?_, ?_, ?_, hlt⟩
  · have e : rowT (L ++ [⟨txL zs p, ndV zs (tdP zs p none) 4 (tdB zs p none)⟩]) = rowT L ++ [.string (tdS zs p none), .int .u32 (ndV zs (tdP zs p none) 4 (tdB zs p none))] := by
      unfold rowT
      rw [List.flatMap_append]
      simp [Tm.cells, str_txL, tdS]
    rw [e, List.length_append]
    exact own_low ho k1 (by omega)
  · exact (k1.block _ (blk_lt q0) (fun e => by have := Option.some.inj e; omega)).trans q0
  · exact grown_new (grown_new (grown_trans o4 (World.grownBy_alloc w3 o (some r))) hg4 (fun g hgg => by have := hlo g hgg; omega)) k1 (fun g hgg => by have := Option.some.inj hgg; omega)
  · intro hb
    have h1 := h.res rfl
    rw [rdLoop] at h1
    rw [ndB_eq] at hb
    have hb2 := rdB_back 4 hb
    have hb3 : txB zs p none = none := by rw [← tdB_eq h.rd.lies.1 h.rd.at_]; exact hb2
    rw [hb2]
    rw [hb2] at hb
    have e1 : tmB zs p none = none := by unfold tmB; rw [hb3]; exact hb
    rw [if_neg (by simp), e1] at h1
    exact h1
  · intro f hb
    have h1 := h.res rfl
    rw [rdLoop, if_neg (by simp)] at h1
    have e1 : tmB zs p none = some f := by
      rw [ndB_eq, tdB_eq h.rd.lies.1 h.rd.at_] at hb
      exact hb
    rw [← h1, e1]
    exact rdLoop_s _ _
def LiOut (w : World) (r : Nat) (a : Option Addr) (c : Nat) (zs : List Int) (p : Nat) (bad : Option (Int × Int)) (e : Ending) (w' : World) : Prop :=
  ∃ v ts n p', e = .returned (.agg #[v, .int .u32 n]) ∧ w.grownBy w' (some r) ∧ w'.ownsRow w.heap.size 107 2 v ts.length (rowT ts) ∧ RD w' r a c zs p' (liB zs p bad) ∧ (liB zs p bad = none → ts = liL zs p bad ∧ n = liN zs p bad ∧ p' = liP zs p bad)
theorem LD.end {k : Nat} {L : List Tm} {q : Nat} {b : Option (Int × Int)} {v : Value} {wr w2 : World} (h : LD w r a c zs (rdTerms zs p bad) k L q b v wr) (hk : b = none → k = 0) (hg : wr.grownBy w2 (some r)) (hR : RD w2 r a c zs (ndP zs q 4 b) (ndB zs q 4 b)) (n : Int) (hn : n = ndV zs q 4 b) :
    w2.heap[w.heap.size + 1]? = some (.cells #[v, .int .u32 0] 84 (0, 0)) ∧ (w2.setCell ⟨w.heap.size + 1, 1, none⟩ (.int .u32 n)).heap[w.heap.size + 1]? = some (.cells #[v, .int .u32 n] 84 (0, 0)) ∧ (w2.setCell ⟨w.heap.size + 1, 1, none⟩ (.int .u32 n)).heap[w.heap.size]? = some (.cells liZ 84 (0, 0)) ∧
    (((w2.setCell ⟨w.heap.size + 1, 1, none⟩ (.int .u32 n)).setCell ⟨w.heap.size, 0, none⟩ v).setCell ⟨w.heap.size, 1, none⟩ (.int .u32 n)).heap[w.heap.size]? = some (.cells #[v, .int .u32 n] 84 (0, 0)) ∧
    LiOut w r a c zs p bad (.returned (.agg #[v, .int .u32 n])) (((w2.setCell ⟨w.heap.size + 1, 1, none⟩ (.int .u32 n)).setCell ⟨w.heap.size, 0, none⟩ v).setCell ⟨w.heap.size, 1, none⟩ (.int .u32 n)) := by
  have hlt := h.lt
  obtain ⟨o1, o2, o3, o4⟩ := h.step hg hR
  obtain ⟨s1, k1⟩ := row_set o2 1 (.int .u32 n)
  have o3b := (k1.block _ (blk_lt o3) (fun e => by have := Option.some.inj e; omega)).trans o3
  obtain ⟨s2, k2⟩ := row_set o3b 0 v
  obtain ⟨s3, k3⟩ := row_set s2 1 (.int .u32 n)
  have hfar : ∀ (j : Nat), r < j → ∀ q, some j = some q → r < q := fun j hj q hq => by cases hq; exact hj
  have hR4 := ((hR.keep (hfar _ (by omega)) k1).keep (hfar _ (by omega)) k2).keep (hfar _ (by omega)) k3
  have hgr := grown_new (grown_new (grown_new o4 k1 (fun g hgg => by have := Option.some.inj hgg; omega)) k2 (fun g hgg => by have := Option.some.inj hgg; omega)) k3 (fun g hgg => by have := Option.some.inj hgg; omega)
  have hown := own_weaken (own_low (own_low (own_low o1 k1 (by omega)) k2 (by omega)) k3 (by omega)) (show w.heap.size ≤ w.heap.size + 2 by omega)
  have hB : ndB zs q 4 b = liB zs p bad ∧ (liB zs p bad = none → L = liL zs p bad ∧ n = liN zs p bad ∧ ndP zs q 4 b = liP zs p bad) := by
    cases hb : b with
    | some f =>
      have h2 := h.bad f hb
      have e1 : liB zs p bad = some f := by unfold liB; rw [h2, rdB_s]
      rw [e1]
      exact ⟨rfl, fun h => by cases h⟩
    | none =>
      have h2 := h.res hb
      rw [hk hb, rdLoop] at h2
      subst hb
      unfold liB liL liN liP
      rw [← h2]
      exact ⟨rfl, fun _ => ⟨rfl, hn, rfl⟩⟩
  refine ⟨o2, s1, o3b, s3, v, L, n, ndP zs q 4 b, rfl, hgr, hown, ?_, hB.2⟩
  rw [← hB.1]
  exact hR4
set_option maxHeartbeats 8000000 in
theorem linD_is (h : RD w r a c zs p bad) : Calls Tryz.prog 45 #[.pointer (some ⟨r, 0, none⟩)] w fun e w' => LiOut w r a c zs p bad e w' := by
  obtain ⟨i1, hi1, hy0, hy1, hy2⟩ := info_parts info123
  have hlt := blk_lt h.blk
  have hbd : 0 ≤ ndV zs p 2 bad ∧ ndV zs p 2 bad ≤ 65535 := by
    have := rdV_bd h.lies.1 p
    unfold ndV
    split <;> omega
  have hz := h.lies.1
  have hat := h.at_
  have hA : RD (wL w) r a c zs p bad := (h.below (below_alloc w _)).below (below_alloc _ _)
  have h42 := Hid.intro (numD2 hA)
  obtain ⟨n0, hn0⟩ : ∃ n0 : Nat, ndV zs p 2 bad = (n0 : Int) := ⟨(ndV zs p 2 bad).toNat, by omega⟩
  have hst : Hid (∀ w1, (wL w).grownBy w1 (some r) → RD w1 r a c zs (ndP zs p 2 bad) (ndB zs p 2 bad) → LD w r a c zs (rdTerms zs p bad) n0 [] (ndP zs p 2 bad) (ndB zs p 2 bad) (.slice none 0 0) w1) := fun w1 hg hR => by
    have b0 := heap_alloc_new w (.cells liZ 84)
    have b0' := keepB b0 (.cells liZ 84)
    have b1 := heap_alloc_new (w.alloc (.cells liZ 84)) (.cells liZ 84)
    rw [show (w.alloc (.cells liZ 84)).heap.size = w.heap.size + 1 by simp] at b1
    have hgw : w.grownBy (wL w) (some r) := grown_trans (World.grownBy_alloc w _ (some r)) (World.grownBy_alloc _ _ (some r))
    refine ⟨hR, World.ownsRow_nil _ _ _ _, (hg.block _ (blk_lt b1) (fun e => by have := Option.some.inj e; omega)).trans b1, (hg.block _ (blk_lt b0') (fun e => by have := Option.some.inj e; omega)).trans b0', grown_trans hgw hg, fun hb => ?_, fun f hf => ?_, hlt⟩
    · rw [ndB_eq] at hb
      obtain rfl := rdB_back 2 hb
      unfold rdTerms
      rw [hb]
      have e1 : rdV zs p 2 = (n0 : Int) := hn0
      rw [e1, Int.toNat_natCast]
      rfl
    · rw [ndB_eq] at hf
      unfold rdTerms
      rw [hf]
      exact rdLoop_s _ _
  rw [hn0] at h42 hbd
  have hn1 : n0 ≤ 65535 := by omega
  have hEnd : Hid (∀ (k : Nat) (L : List Tm) (q : Nat) (b : Option (Int × Int)) (v : Value) (wr w2 : World), LD w r a c zs (rdTerms zs p bad) k L q b v wr → (b = none → k = 0) → wr.grownBy w2 (some r) → RD w2 r a c zs (ndP zs q 4 b) (ndB zs q 4 b) → ∀ n, n = ndV zs q 4 b → _) := fun k L q b v wr w2 h1 h2 h3 h4 n h5 => LD.end h1 h2 h3 h4 n h5
  generalize rdTerms zs p bad = R at *
  generalize ndP zs p 2 bad = P1 at *
  generalize ndB zs p 2 bad = B1 at *
  clear hn0 hbd hA h hlt
  go_enter Tryz.func45, Tryz.ntmps45
  go_wp2_with (go_at_call 42; (with_reducible refine (h42.out).mono ?_); rintro e w1 ⟨rfl, g1, hR1⟩; replace g1 := Hid.intro g1; replace hR1 := Hid.intro hR1)
  all_goals first | omega | skip
  have hL0 := Hid.intro (hst.out w1 g1.out hR1.out)
  clear g1 hR1 h42 hst
  go_loopw [5] (fun v5 wr => ∃ (j : Nat) (L : List Tm) (q : Nat) (b : Option (Int × Int)) (v : Value), j ≤ n0 ∧ L.length ≤ j ∧ v5 = .int .i64 (j : Int) ∧ Hid (LD w r a c zs R (n0 - j) L q b v wr)) (fun v5 _ => n0 - (intOf v5).toNat)
  case atStart => exact ⟨0, [], _, _, _, by omega, by simp, rfl, hL0⟩
  case round =>
    obtain ⟨j, L, q, b, v, hj, hLj, rfl, hL⟩ := hrel
    clear hL0
    obtain ⟨c0, c1, c2, c3⟩ := four_readD hL.out.rd.blk
    by_cases hjn : j < n0
    · cases b with
      | some f =>
        have hnz := hL.out.rd.nz f rfl
        simp only [bdA, bdW, Option.getD_some] at c2 c3
        obtain ⟨f1, f2⟩ := f
        dsimp only at c2 c3 hnz
        have hd2 : (f2 == 0) = false := by simpa using hnz
        obtain ⟨a9, c9, rfl⟩ := own_slice hL.out.own
        have h42 := Hid.intro (numD4 hL.out.rd)
        have hE := Hid.intro (fun w2 h3 h4 => hEnd.out _ _ _ _ _ _ w2 hL.out (fun e => by cases e) h3 h4 _ rfl)
        clear hL hEnd
        go_wp2_with (go_at_call 42; (with_reducible refine (h42.out).mono ?_); rintro e w2 ⟨rfl, g2, hR2⟩; obtain ⟨e1, e2, e3, e4, e5⟩ := hE.out w2 g2 hR2; obtain ⟨m0, m1⟩ := two_readR e1; obtain ⟨m2, m3⟩ := two_readR e2; obtain ⟨m4, m5⟩ := two_readR e3; have fa := frozen_of_row _ (w.heap.size + 1) 1 _ 84 e1; have fb := fun j => frozen_of_row _ w.heap.size j _ 84 e3; replace e4 := Hid.intro e4; replace e5 := Hid.intro e5)
        all_goals first | omega | skip
        obtain ⟨m6, m7⟩ := two_readR e4.out
        refine bodyPost_ret (by simp [results, Tryz.results45, go_sem, m6, m7]; try rfl) rfl ?_
        exact e5.out
      | none =>
        simp only [bdA, bdW, Option.getD_none] at c2 c3
        obtain ⟨a9, c9, rfl⟩ := own_slice hL.out.own
        obtain ⟨l9, hl9⟩ : ∃ l9, l9 = L.length := ⟨_, rfl⟩
        have hk : n0 - j = (n0 - (j + 1)) + 1 := by omega
        have hLk := hL.out
        rw [hk] at hLk
        have x0 := hLk.blk
        rw [← hl9] at x0
        have h44 := Hid.intro (textD_is hLk.rd)
        have h42 : Hid (∀ w2 n, RD w2 r a c zs (tdP zs q none) (tdB zs q none) → Calls Tryz.prog 42 #[.pointer (some ⟨r, 0, none⟩), .int .i64 4] (w2.drewN n) fun e w' => e = .returned (.int .u32 (ndV zs (tdP zs q none) 4 (tdB zs q none))) ∧ w2.grownBy w' (some r) ∧ RD w' r a c zs (ndP zs (tdP zs q none) 4 (tdB zs q none)) (ndB zs (tdP zs q none) 4 (tdB zs q none))) := fun w2 n hh => by
          refine (numberD_is (hh.below (below_drewN (Below.refl w2.heap.size w2) n)) 4 (.inr (.inr rfl))).mono ?_
          rintro e w' ⟨h1, h2, h3⟩
          exact ⟨h1, ⟨h2.os, h2.tape, h2.output, h2.size, h2.block⟩, h3⟩
        have hx : Hid (∀ w2, wr.grownBy w2 (some r) → w2.heap[w.heap.size + 1]? = some (.cells #[.slice a9 l9 c9, .int .u32 0] 84 (0, 0)) ∧ w2.ownsRow (w.heap.size + 2) 107 2 (.slice a9 l9 c9) l9 (rowT L) ∧ w.heap.size + 2 ≤ w2.heap.size) := fun w2 hg => by
          have hh := hLk.lt
          have h1 := (hg.block _ (blk_lt x0) (fun e => by have := Option.some.inj e; omega)).trans x0
          have h2 := own_low hLk.own hg (by omega)
          rw [← hl9] at h2
          exact ⟨h1, h2, blk_lt h1⟩
        have hnx : Hid (∀ w3 v' w4 o, wr.grownBy w3 (some r) → RD w3 r a c zs (ndP zs (tdP zs q none) 4 (tdB zs q none)) (ndB zs (tdP zs q none) 4 (tdB zs q none)) → w4.ownsRow (w.heap.size + 2) 107 2 v' (l9 + 1) (rowT L ++ [.string (tdS zs q none), .int .u32 (ndV zs (tdP zs q none) 4 (tdB zs q none))]) → (w3.alloc o).grownBy w4 (Value.slice a9 l9 c9).ownBlock →
            w4.heap[w.heap.size + 1]? = some (.cells #[.slice a9 l9 c9, .int .u32 0] 84 (0, 0)) ∧ LD w r a c zs R (n0 - (j + 1)) (L ++ [⟨txL zs q, ndV zs (tdP zs q none) 4 (tdB zs q none)⟩]) (ndP zs (tdP zs q none) 4 (tdB zs q none)) (ndB zs (tdP zs q none) 4 (tdB zs q none)) v' (w4.setCell ⟨w.heap.size + 1, 0, none⟩ v')) := fun w3 v' w4 o h1 h2 h3 h4 => by
          rw [hl9] at h3 h4 ⊢
          exact hLk.next h1 h2 o h3 h4
        have hrow : Hid (rowT L = rowT L) := rfl
        generalize ndV zs (tdP zs q none) 4 (tdB zs q none) = Nn at *
        generalize tdS zs q none = S at *
        generalize rowT L = RL at *
        obtain ⟨x1, x2⟩ := two_readR x0
        have hl10 : l9 ≤ 65535 := by omega
        clear hL hLk hk hEnd hrow hl9
        go_upto_region 7 with (go_at_call 44; (with_reducible refine (h44.out).mono ?_); rintro e w2 ⟨rfl, g2, hR2⟩; obtain ⟨z1, z2, z3⟩ := hx.out w2 g2; replace g2 := Hid.intro g2; replace hR2 := Hid.intro hR2; clear z2 z3)
        all_goals first | omega | skip
        have k0 := (two_readR z1).1
        refine wp_region_last (by kernel_rfl) 9 _ rfl rfl rfl (by kernel_rfl) (fun W => W.cell? ⟨w.heap.size + 1, 0, none⟩ = some (.slice a9 l9 c9)) k0 (fun hHeld => ?_)
        simp only [List.setIfInBounds_toArray, List.set_cons_succ, List.set_cons_zero, noOp]
        refine wpAnyH_take (i := 0) (v := ?va_0) (by simp only [List.getElem?_toArray, List.getElem?_cons_succ, List.getElem?_cons_zero]; rfl) (by kernel_rfl) (by kernel_rfl) (by kernel_rfl) (by exact fun _ _ _ h => h) (Or.inl ⟨by rfl, ?ya_0⟩) (by assumption) ?ra_0
        case ya_0 => (intro w hSw; (try dsimp only at hSw); go_simp; (try with_reducible rfl))
        try simp only [Act.put, List.setIfInBounds_toArray, List.set_cons_zero, List.set_cons_succ]
        refine wpAnyH_take (i := 1) (v := ?va_1) (by simp only [List.getElem?_toArray, List.getElem?_cons_succ, List.getElem?_cons_zero]; rfl) (by kernel_rfl) (by kernel_rfl) (by kernel_rfl) (by exact fun _ _ _ h => h) (Or.inl ⟨by rfl, ?ya_1⟩) (by assumption) ?ra_1
        case ya_1 => (intro w hSw; (try dsimp only at hSw); go_simp; (try with_reducible rfl))
        try simp only [Act.put, List.setIfInBounds_toArray, List.set_cons_zero, List.set_cons_succ]
        refine wpAnyH_take (i := 2) (v := ?va_2) (by simp only [List.getElem?_toArray, List.getElem?_cons_succ, List.getElem?_cons_zero]; rfl) (by kernel_rfl) (by kernel_rfl) (by kernel_rfl) (by exact fun _ _ _ h => h) (Or.inl ⟨by rfl, ?ya_2⟩) (by assumption) ?ra_2
        case ya_2 => (intro w hSw; (try dsimp only at hSw); go_simp; (try with_reducible rfl))
        try simp only [Act.put, List.setIfInBounds_toArray, List.set_cons_zero, List.set_cons_succ]
        refine wpAnyH_take (i := 3) (v := ?va_3) (by simp only [List.getElem?_toArray, List.getElem?_cons_succ, List.getElem?_cons_zero]; rfl) (by kernel_rfl) (by kernel_rfl) (by kernel_rfl) (by exact fun _ _ _ h => h) (Or.inl ⟨by rfl, ?ya_3⟩) (by assumption) ?ra_3
        case ya_3 => (intro w hSw; (try dsimp only at hSw); go_simp; (try with_reducible rfl))
        try simp only [Act.put, List.setIfInBounds_toArray, List.set_cons_zero, List.set_cons_succ]
        refine wpAnyH_ready (rs := [4]) (by kernel_rfl) (by simp) ?_
        refine AllReadyH.cons (o := ?op_4) ?hop_4 (fun K hK => ?stp_4) AllReadyH.nil
        case hop_4 => (simp only [List.getElem?_toArray, List.getElem?_cons_succ, List.getElem?_cons_zero]; rfl)
        refine step_fnA Tryz.prog _ rfl 42 _ _ rfl #[.pointer (some ⟨r, 0, none⟩), .int .i64 4] (by simp [Act.eval]) _ rfl f42_name f42_body ?_
        refine (h42.out w2 1 hR2.out).mono ?_
        rintro e w3 ⟨rfl, g3, hR3⟩
        have g3w := Hid.intro (grown_trans g2.out g3)
        obtain ⟨z2, z3, z4⟩ := hx.out w3 g3w.out
        replace hR3 := Hid.intro hR3
        have z3a := Hid.intro (own_keptB z3 (below_alloc w3 (.cells #[.string S, .int .u32 Nn] 107)))
        have z2a := (two_readR (keepB z2 (.cells #[.string S, .int .u32 Nn] 107))).1
        refine ⟨_, rfl, hK.out _ _ (two_readR z2).1 (fun hHeld => ?_)⟩
        clear hK K z3 g3
        try simp only [Act.put, List.setIfInBounds_toArray, List.set_cons_zero, List.set_cons_succ]
        refine wpAnyH_take (i := 5) (v := ?vb_5) (by simp only [List.getElem?_toArray, List.getElem?_cons_succ, List.getElem?_cons_zero]; rfl) (by kernel_rfl) (by kernel_rfl) (by kernel_rfl) (by exact fun _ _ _ h => h) (Or.inl ⟨by rfl, ?yb_5⟩) (by assumption) ?rb_5
        case yb_5 => (intro w hSw; (try dsimp only at hSw); go_simp; (try with_reducible rfl))
        try simp only [Act.put, List.setIfInBounds_toArray, List.set_cons_zero, List.set_cons_succ]
        refine wpAnyH_ready (rs := [6]) (by kernel_rfl) (by simp) ?_
        refine AllReadyH.cons (o := ?op_6) ?hop_6 (fun K hK => ?stp_6) AllReadyH.nil
        case hop_6 => (simp only [List.getElem?_toArray, List.getElem?_cons_succ, List.getElem?_cons_zero]; rfl)
        go_simp
        refine hK.out _ _ z2a (fun hHeld => ?_)
        clear hK K
        try simp only [Act.put, List.setIfInBounds_toArray, List.set_cons_zero, List.set_cons_succ]
        refine wpAnyH_ready (rs := [7]) (by kernel_rfl) (by simp) ?_
        refine AllReadyH.cons (o := ?op_7) ?hop_7 (fun K hK => ?stp_7) AllReadyH.nil
        case hop_7 => (simp only [List.getElem?_toArray, List.getElem?_cons_succ, List.getElem?_cons_zero]; rfl)
        refine step_app _ rfl (.tmp 26) (.tmp 31) 82 rfl (w.heap.size + 2) 107 i1 _ 2 24 Tryz.underlying82 hi1 hy0 hy1 hy2 rfl (by decide) (.slice a9 l9 c9) l9 RL rfl z3a.out (.slice (some ⟨w3.heap.size, 0, none⟩) 1 1) 1 [.string S, .int .u32 Nn] rfl (.inr ⟨_, _, rfl, cells_new w3 #[.string S, .int .u32 Nn] 107⟩) rfl (by simp [Value.oneCell']) (by unfold maxLen; omega) (by omega) (by simp; omega) ?_
        intro v4 w4 ho4 hg4 hw4
        obtain ⟨u1, u2⟩ := hnx.out w3 v4 w4 _ g3w.out hR3.out ho4 hg4
        replace u2 := Hid.intro u2
        have uf := frozen_of_row w4 (w.heap.size + 1) 0 _ 84 u1
        have u3 := (two_readR u1).1
        obtain ⟨a4, c4, rfl⟩ := own_slice ho4
        clear ho4 hg4 hw4
        refine hK.out _ _ u3 (fun hHeld => ?_)
        clear hK K
        try simp only [Act.put, List.setIfInBounds_toArray, List.set_cons_zero, List.set_cons_succ]
        refine wpAnyH_take (i := 8) (v := ?vc_8) (by simp only [List.getElem?_toArray, List.getElem?_cons_succ, List.getElem?_cons_zero]; rfl) (by kernel_rfl) (by kernel_rfl) (by kernel_rfl) (by exact fun _ _ _ h => h) (Or.inl ⟨by rfl, ?yc_8⟩) (by assumption) ?rc_8
        case yc_8 => (intro w hSw; (try dsimp only at hSw); go_simp; (try with_reducible rfl))
        try simp only [Act.put, List.setIfInBounds_toArray, List.set_cons_zero, List.set_cons_succ]
        refine wpAnyH_take (i := 9) (v := ?vc_9) (by simp only [List.getElem?_toArray, List.getElem?_cons_succ, List.getElem?_cons_zero]; rfl) (by kernel_rfl) (by kernel_rfl) (by kernel_rfl) (by exact fun _ _ _ h => h) (Or.inl ⟨by rfl, ?yc_9⟩) (by assumption) ?rc_9
        case yc_9 => (intro w hSw; (try dsimp only at hSw); go_simp; (try with_reducible rfl))
        try simp only [Act.put, List.setIfInBounds_toArray, List.set_cons_zero, List.set_cons_succ]
        refine wpAnyH_done (by kernel_rfl) ?_ _
        show Oper.wp _ _ _ _ _ _
        go_simp
        all_goals (go_wp2_with fail; go_roundw)
        all_goals first
          | exact ⟨j + 1, _, _, _, _, by omega, by simp; omega, by go_num, u2⟩
          | (simp [intOf]; omega)
    · obtain rfl : j = n0 := by omega
      obtain ⟨a9, c9, rfl⟩ := own_slice hL.out.own
      have h42 := Hid.intro (numD4 hL.out.rd)
      have hE := Hid.intro (fun w2 h3 h4 => hEnd.out _ _ _ _ _ _ w2 hL.out (fun _ => Nat.sub_self _) h3 h4 _ rfl)
      clear hL hEnd
      go_wp2_with (go_at_call 42; (with_reducible refine (h42.out).mono ?_); rintro e w2 ⟨rfl, g2, hR2⟩; obtain ⟨e1, e2, e3, e4, e5⟩ := hE.out w2 g2 hR2; obtain ⟨m0, m1⟩ := two_readR e1; obtain ⟨m2, m3⟩ := two_readR e2; obtain ⟨m4, m5⟩ := two_readR e3; have fa := frozen_of_row _ (w.heap.size + 1) 1 _ 84 e1; have fb := fun j => frozen_of_row _ w.heap.size j _ 84 e3; replace e4 := Hid.intro e4; replace e5 := Hid.intro e5)
      all_goals first | omega | skip
      obtain ⟨m6, m7⟩ := two_readR e4.out
      refine bodyPost_ret (by simp [results, Tryz.results45, go_sem, m6, m7]; try rfl) rfl ?_
      exact e5.out
end
end Go.Proofs.YtmndccbeddaphaaGreatDoor
/- A set of names in memory: map[string]struct{}. -/
namespace Go.Proofs.YtmndccbeddaphaaGreatDoor
open Go.ChangeShapes Go.WideShapes Go.ChangeAt Go.RowKit Go.WideMaps Go.Maps
set_option linter.unusedVariables false
set_option maxRecDepth 100000
theorem lawS : Keyed Tryz.prog 9 := string_keyed Tryz.underlying9
theorem zero164 (w : World) : (zeroValue 164).run Tryz.prog w = .ok (.agg #[]) w := by kernel_rfl
def unitE (v : Value) : Option (DataW Unit × List MemPlace) :=
  match v with
  | .agg a => if a = #[] then some (.agg [], []) else none
  | _ => none
theorem unitE_zero : unitE (.agg #[]) = some (.agg [], []) := rfl
theorem unitE_inv {v : Value} {z : DataW Unit × List MemPlace} (h : unitE v = some z) : v = .agg #[] := by
  unfold unitE at h
  split at h
  · split at h
    · rename_i ha; rw [ha]
    · cases h
  · cases h
def SetIs (w : World) (b n : Nat) (g : List (List UInt8)) : Prop :=
  ∃ D : DataW Unit, w.ownsMap Tryz.prog 9 unitE b n D ∧ IsMap D ∧ ∀ s, has D (.string s) = decide (s ∈ g)
theorem SetIs.lt {w : World} {b n : Nat} {g : List (List UInt8)} (h : SetIs w b n g) : b < w.heap.size := by
  obtain ⟨D, h1, _⟩ := h
  exact h1.lt
theorem SetIs.kept {w w' : World} {b n : Nat} {row : Option Nat} {g : List (List UInt8)} (h : SetIs w b n g) (hg : w.grownBy w' row) (hne : some b ≠ row) : SetIs w' b n g := by
  obtain ⟨D, h1, h2, h3⟩ := h
  exact ⟨D, h1.kept hg hne, h2, h3⟩
theorem setlook_run {w : World} {b n : Nat} {g : List (List UInt8)} (h : SetIs w b n g) (s : List UInt8) (hs : s.length ≤ 1100000) : (Instr.lookup 69 (.map (some b)) (.string (str s)) true).run Tryz.prog w = .ok (.tuple #[.agg #[], .bool (decide (s ∈ g))]) w := by
  obtain ⟨D, hown, hD1, hD2⟩ := h
  have hsz : (str s).size ≤ maxLen := by
    have h2 : (str s).size = s.length := by simp [str, ByteArray.size]
    unfold maxLen
    omega
  have hkey : keyOf Tryz.prog 9 (.string (str s)) = some (.string s) := keyOf_string_mk Tryz.underlying9 hsz
  obtain ⟨v, ps, hrun, hv⟩ := hown.look_ok lawS Tryz.underlying69 (zero164 w) unitE_zero hkey
  rw [hrun, unitE_inv hv, hD2 s]
theorem setspec_put {D : DataW Unit} {g : List (List UInt8)} (h : ∀ s, has D (.string s) = decide (s ∈ g)) (hD : IsMap D) (s : List UInt8) : ∀ x, has (D.put (.string s) (.agg [])) (.string x) = decide (x ∈ g ++ [s]) := by
  intro x
  by_cases hx : x = s
  · subst hx
    rw [has_put_same hD (show WideAt.IsKeyLit (.string x) from trivial)]
    simp
  · have n1 : (Lit.string x) ≠ .string s := fun e => hx (by injection e)
    rw [has_put_other n1, h x]
    simp [hx]
theorem setput_run {w : World} {b n : Nat} {g : List (List UInt8)} (h : SetIs w b n g) (hn : n ≤ 3000000) (s : List UInt8) (hs : s.length ≤ 1100000) :
    ∃ w', (Instr.mapUpdate 69 (.map (some b)) (.string (str s)) (.agg #[])).run Tryz.prog w = .ok () w' ∧ SetIs w' b (n + 1) (g ++ [s]) ∧ w.grownBy w' (some b) := by
  obtain ⟨D, hown, hD1, hD2⟩ := h
  have hsz : (str s).size ≤ maxLen := by
    have h2 : (str s).size = s.length := by simp [str, ByteArray.size]
    unfold maxLen
    omega
  have hkey : keyOf Tryz.prog 9 (.string (str s)) = some (.string s) := keyOf_string_mk Tryz.underlying9 hsz
  obtain ⟨w', hrun, r1, r2⟩ := hown.update lawS Tryz.underlying69 (by unfold maxLen; omega) hkey unitE_zero
  exact ⟨w', hrun, ⟨_, r1, hD1.put _ _, setspec_put hD2 hD1 s⟩, r2⟩
end Go.Proofs.YtmndccbeddaphaaGreatDoor
namespace Go.Proofs.YtmndccbeddaphaaGreatDoor
open Go.ChangeShapes Go.WideShapes Go.ChangeAt Go.RowKit Go.WideMaps Go.Maps
set_option linter.unusedVariables false
set_option linter.unusedSimpArgs false
set_option maxRecDepth 100000
theorem SetIs.more {w : World} {b n n' : Nat} {g : List (List UInt8)} (h : SetIs w b n g) (hn : n ≤ n') : SetIs w b n' g := by
  obtain ⟨D, h1, h2, h3⟩ := h
  exact ⟨D, h1.mono hn, h2, h3⟩
set_option maxHeartbeats 4000000 in
theorem give_twice (r m n : Nat) (g : List (List UInt8)) (s : List UInt8) (hs : s.length ≤ 1100000) (hg : s ∈ g) (w : World) (hc : w.cell? ⟨r, 3, none⟩ = some (.map (some m))) (hS : SetIs w m n g) :
    Calls Tryz.prog 117 #[.pointer (some ⟨r, 0, none⟩), .string (str s)] w fun e w' => e = .returned (.bool false) ∧ w' = w.alloc (.cells #[] 164) := by
  have e1 := str_toList s
  have hl := setlook_run hS s hs
  rw [show decide (s ∈ g) = true by simp [hg]] at hl
  clear hS
  go_enter Tryz.func117, Tryz.ntmps117
  go_wp2
  go_ret
  exact ⟨rfl, rfl⟩
set_option maxHeartbeats 4000000 in
theorem give_new (r m n : Nat) (g : List (List UInt8)) (s : List UInt8) (hs : s.length ≤ 1100000) (hg : s ∉ g) (hn : n ≤ 3000000) (w : World) (hc : w.cell? ⟨r, 3, none⟩ = some (.map (some m))) (hS : SetIs w m n g) (hb : r < w.heap.size) :
    Calls Tryz.prog 117 #[.pointer (some ⟨r, 0, none⟩), .string (str s)] w fun e w' => e = .returned (.bool true) ∧ SetIs w' m (n + 1) (g ++ [s]) ∧ w.grownBy w' (some m) := by
  have e1 := str_toList s
  have hl := setlook_run hS s hs
  rw [show decide (s ∈ g) = false by simp [hg]] at hl
  have hS1 : SetIs (w.alloc (.cells #[] 164)) m n g := hS.kept (World.grownBy_alloc w (.cells #[] 164) none) (by simp)
  obtain ⟨w2, hu, hS2, hg2⟩ := setput_run hS1 hn s hs
  have hgr : Hid (w.grownBy w2 (some m)) := (World.grownBy_alloc w (.cells #[] 164) (some m)).trans hg2
  replace hS2 := Hid.intro hS2
  have hc1 : (w.alloc (.cells #[] 164)).cell? ⟨r, 3, none⟩ = some (.map (some m)) := by rw [World.cell?_alloc_lt _ _ ⟨r, 3, none⟩ hb]; exact hc
  clear hS hS1 hg2
  go_enter Tryz.func117, Tryz.ntmps117
  go_wp2
  go_ret
  exact ⟨rfl, hS2.out, hgr.out⟩
def givN (g : List (List UInt8)) (s : List UInt8) : List (List UInt8) := if s ∈ g then g else g ++ [s]
theorem give_is (r m n : Nat) (g : List (List UInt8)) (s : List UInt8) (hs : s.length ≤ 1100000) (hn : n ≤ 3000000) (w : World) (hc : w.cell? ⟨r, 3, none⟩ = some (.map (some m))) (hS : SetIs w m n g) (hb : r < w.heap.size) :
    Calls Tryz.prog 117 #[.pointer (some ⟨r, 0, none⟩), .string (str s)] w fun e w' => e = .returned (.bool (decide (s ∉ g))) ∧ SetIs w' m (n + 1) (givN g s) ∧ w.grownBy w' (some m) := by
  unfold givN
  by_cases h : s ∈ g
  · refine (give_twice r m n g s hs h w hc hS).mono ?_
    rintro e w' ⟨rfl, rfl⟩
    rw [if_pos h]
    exact ⟨by simp [h], (hS.kept (World.grownBy_alloc w (.cells #[] 164) none) (by simp)).more (by omega), World.grownBy_alloc w _ _⟩
  · refine (give_new r m n g s hs h hn w hc hS hb).mono ?_
    rintro e w' ⟨rfl, h1, h2⟩
    rw [if_neg h]
    exact ⟨by simp [h], h1, h2⟩
end Go.Proofs.YtmndccbeddaphaaGreatDoor
