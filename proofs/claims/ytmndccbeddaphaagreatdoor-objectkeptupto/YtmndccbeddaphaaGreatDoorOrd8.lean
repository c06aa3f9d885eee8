/- object's reader: an instruction. -/
import Derived.Test.YtmndccbeddaphaaGreatDoorOrd4
import Derived.Test.YtmndccbeddaphaaGreatDoorSetM
import Derived.Test.YtmndccbeddaphaaGreatDoorWhl
import Derived.Test.YtmndccbeddaphaaGreatDoorIt9
namespace Go.Proofs.YtmndccbeddaphaaGreatDoor
open Go.ChangeShapes Go.WideShapes Go.ChangeAt Go.RowKit Go.Sort
set_option linter.unusedVariables false
set_option linter.unusedSimpArgs false
set_option maxRecDepth 100000
def txL (zs : List Int) (p : Nat) : List UInt8 := (txS zs p).data.toList
theorem str_txL (zs : List Int) (p : Nat) : str (txL zs p) = txS zs p := by unfold txL str; simp
def tmAt (zs : List Int) (p : Nat) : Tm := ⟨txL zs p, tmN zs p⟩
def rdLoop (zs : List Int) : Nat → List Tm → Nat → Option (Int × Int) → List Tm × Nat × Option (Int × Int)
  | 0, acc, p, b => (acc, p, b)
  | k + 1, acc, p, b => if b.isSome then ([], p, b) else rdLoop zs k (acc ++ [tmAt zs p]) (tmP zs p) (tmB zs p b)
def rdTerms (zs : List Int) (p : Nat) (b : Option (Int × Int)) : List Tm × Nat × Option (Int × Int) := rdLoop zs (rdV zs p 2).toNat [] (rdP zs p 2) (rdB zs p 2 b)
theorem rdV_bd {zs : List Int} (hz : O.AreBytes zs) (p : Nat) : 0 ≤ rdV zs p 2 ∧ rdV zs p 2 ≤ 65535 := by
  unfold rdV
  split
  · have hb := O.leN_bd ((zs.drop p).take 2) (O.areBytes_take _ (O.areBytes_drop _ hz _) 2)
    have hl : ((zs.drop p).take 2).length = 2 := by simp; omega
    rw [hl] at hb
    omega
  · omega
section
variable {w w' : World} {r : Nat} {a : Option Addr} {c : Nat} {zs : List Int} {p : Nat} {bad : Option (Int × Int)} {rp : Option Nat} {mv : Value} {last : List UInt8}
theorem RS.off (h : RS w r a c zs p bad rp mv last) {lo : Nat} {T : TypeId} {sz n : Nat} {v : Value} {xs : List Value} (hr : w.ownsRow lo T sz v n xs) (hlo : r < lo) (hT : T ≠ 68) (hg : w.grownBy w' v.ownBlock) : RS w' r a c zs p bad rp mv last := by
  have hne : ∀ g, v.ownBlock = some g → lo ≤ g := fun g hgg => (hr.lt g hgg).1
  refine ⟨(hg.block r (blk_lt h.blk) (fun e => ?_)).trans h.blk, lies_grown h.lies (fun x hx => ⟨Nat.lt_trans (h.old x hx) (blk_lt h.blk), fun e => ?_⟩) hg, h.old, h.cap, h.few, h.at_, h.rf.grown (fun q hq e => ?_) hg⟩
  · have := hne r e.symm; omega
  · have := hne _ e; have := h.old x hx; omega
  · cases hb : bad with
    | none => have h5 := h.rf; rw [hb, hq] at h5; cases h5
    | some f =>
      have h5 := h.rf
      rw [hb] at h5
      obtain ⟨q', h6, h7⟩ := h5
      rw [hq] at h6
      cases h6
      rcases hr.2 with ⟨rfl, _⟩ | ⟨g', cap, cur, rfl, _, hgg, _⟩
      · simp [Value.ownBlock] at e
      · simp [Value.ownBlock] at e
        subst e
        rw [hgg] at h7
        cases h7
        exact hT rfl
theorem grown_new {w3 w4 : World} {k k2 : Option Nat} (h1 : w.grownBy w3 k) (h2 : w3.grownBy w4 k2) (hk : ∀ g, k2 = some g → w.heap.size ≤ g) : w.grownBy w4 k :=
  ⟨by rw [h2.os, h1.os], by rw [h2.tape, h1.tape], by rw [h2.output, h1.output], Nat.le_trans h1.size h2.size, fun j hj hjk => by rw [h2.block j (Nat.lt_of_lt_of_le hj h1.size) (fun e => by have := hk j e.symm; omega), h1.block j hj hjk]⟩
structure RL (w : World) (r : Nat) (a : Option Addr) (c : Nat) (zs : List Int) (mv : Value) (last : List UInt8) (R : List Tm × Nat × Option (Int × Int)) (k : Nat) (L : List Tm) (p : Nat) (b : Option (Int × Int)) (rp : Option Nat) (v : Value) (wr : World) : Prop where
  rs : RS wr r a c zs p b rp mv last
  own : wr.ownsRow w.heap.size 107 2 v L.length (rowT L)
  g : w.grownBy wr (some r)
  res : rdLoop zs k L p b = R
  lt : r < w.heap.size
theorem RL.mid {R : List Tm × Nat × Option (Int × Int)} {k : Nat} {L : List Tm} {v : Value} {wr w2 : World} (h : RL w r a c zs mv last R k L p bad rp v wr) (hg : wr.grownBy w2 (some r)) (o : Obj) : (w2.alloc o).ownsRow w.heap.size 107 2 v L.length (rowT L) := own_keptB (own_low h.own hg h.lt) (below_alloc w2 o)
theorem RL.next {R : List Tm × Nat × Option (Int × Int)} {k : Nat} {L : List Tm} {v v' : Value} {wr w2 w4 : World} {rp2 : Option Nat} (h : RL w r a c zs mv last R (k + 1) L p none rp v wr) (hg : wr.grownBy w2 (some r)) (hR : RS w2 r a c zs (tmP zs p) (tmB zs p none) rp2 mv last) (o : Obj)
    (ho : w4.ownsRow w.heap.size 107 2 v' (L.length + 1) (rowT L ++ [.string (txS zs p), .int .u32 (tmN zs p)])) (hg4 : (w2.alloc o).grownBy w4 v.ownBlock) : RL w r a c zs mv last R k (L ++ [tmAt zs p]) (tmP zs p) (tmB zs p none) rp2 v' w4 := by
  have hm := h.mid hg o
  refine ⟨(hR.below (below_alloc w2 o)).off hm h.lt (by decide) hg4, ?_, ?_, ?_, h.lt⟩
  · have e : rowT (L ++ [tmAt zs p]) = rowT L ++ [.string (txS zs p), .int .u32 (tmN zs p)] := by
      unfold rowT
      rw [List.flatMap_append]
      simp [Tm.cells, tmAt, str_txL]
    rw [e, List.length_append]
    exact ho
  · exact grown_new (grown_trans h.g (grown_trans hg (World.grownBy_alloc w2 o (some r)))) hg4 (fun g hgg => (hm.lt g hgg).1)
  · have := h.res
    rw [rdLoop] at this
    simpa using this
set_option maxHeartbeats 8000000 in
theorem readTerms_is (h : RS w r a c zs p bad rp mv last) : Calls Tryz.prog 141 #[.pointer (some ⟨r, 0, none⟩), .int .i64 65535, .func (.func 142) #[.pointer (some ⟨r, 0, none⟩)] #[]] w fun e w' => ∃ v, e = .returned v ∧ w.grownBy w' (some r) ∧ w'.ownsRow w.heap.size 107 2 v (rdTerms zs p bad).1.length (rowT (rdTerms zs p bad).1) ∧ ∃ rp', RS w' r a c zs (rdTerms zs p bad).2.1 (rdTerms zs p bad).2.2 rp' mv last := by
  obtain ⟨i1, hi1, hy0, hy1, hy2⟩ := info_parts info123
  have hbd := rdV_bd h.lies.1 p
  have hlt := blk_lt h.blk
  obtain ⟨_, c1, _, _, _⟩ := five_read h.blk
  have h113 : Hid (Calls Tryz.prog 113 #[.pointer (some ⟨r, 0, none⟩), .int .i64 2] w fun e w' => e = .returned (.int .u32 (rdV zs p 2)) ∧ w.grownBy w' (some r) ∧ ∃ rp', RS w' r a c zs (rdP zs p 2) (rdB zs p 2 bad) rp' mv last) := number_is h 2 (.inr (.inl rfl))
  have hR : Hid (rdLoop zs (rdV zs p 2).toNat [] (rdP zs p 2) (rdB zs p 2 bad) = rdTerms zs p bad) := rfl
  generalize rdTerms zs p bad = R at *
  obtain ⟨n0, hn0⟩ : ∃ n0 : Nat, rdV zs p 2 = (n0 : Int) := ⟨(rdV zs p 2).toNat, by omega⟩
  rw [hn0] at h113 hR hbd
  have hn1 : n0 ≤ 65535 := by omega
  rw [Int.toNat_natCast] at hR
  clear hn0 hbd
  have hltH := Hid.intro hlt
  clear h hlt
  go_enter Tryz.func141, Tryz.ntmps141
  go_wp2_with (go_at_call 113; (with_reducible refine (h113.out).mono ?_); rintro e w1 ⟨rfl, g1, rp1, hR1⟩; replace g1 := Hid.intro g1; replace hR1 := Hid.intro hR1)
  all_goals first | omega | skip
  have hL0 : Hid (RL w r a c zs mv last R n0 [] (rdP zs p 2) (rdB zs p 2 bad) rp1 (.slice none 0 0) w1) := ⟨hR1.out, World.ownsRow_nil _ _ _ _, g1.out, hR.out, hltH.out⟩
  clear g1 hR1 h113 hR c1
  go_loopw [9, 24] (fun v9 v24 wr => ∃ (j : Nat) (L : List Tm) (p' : Nat) (b' : Option (Int × Int)) (rp' : Option Nat) (a9 : Option Addr) (l9 c9 : Nat), j ≤ n0 ∧ v24 = .int .i64 (j : Int) ∧ v9 = .slice a9 l9 c9 ∧ l9 ≤ j ∧ Hid (l9 = L.length) ∧ Hid (RL w r a c zs mv last R (n0 - j) L p' b' rp' (.slice a9 L.length c9) wr)) (fun v9 v24 _ => n0 - (intOf v24).toNat)
  case atStart => exact ⟨0, [], _, _, _, none, 0, 0, by omega, rfl, rfl, by omega, rfl, hL0⟩
  case round =>
    obtain ⟨j, L, p', b', rp', a9, l9, c9, hj, rfl, rfl, hl9, hl, hL⟩ := hrel
    clear hL0
    by_cases hjn : j < n0
    · have hk : Hid (n0 - j = (n0 - (j + 1)) + 1) := by show _ = _; omega
      have h32 := Hid.intro (refused_is hL.out.rs)
      cases b' with
      | some f =>
        go_wp2_with (go_at_call 32; (with_reducible refine (h32.out).mono ?_); rintro e w2 ⟨rfl, hw2⟩; subst w2)
        all_goals first | omega | skip
        go_ret
        have hres : R = ([], p', some f) := by
          rw [← hL.out.res, hk.out, rdLoop]
          rfl
        rw [hres]
        exact ⟨_, rfl, hL.out.g, World.ownsRow_nil _ _ _ _, rp', hL.out.rs⟩
      | none =>
        have h142 := Hid.intro (term_is hL.out.rs)
        have hnx : Hid (∀ w2 rp2 v' w4, wr.grownBy w2 (some r) → RS w2 r a c zs (tmP zs p') (tmB zs p' none) rp2 mv last → w4.ownsRow w.heap.size 107 2 v' (l9 + 1) (rowT L ++ [.string (txS zs p'), .int .u32 (tmN zs p')]) → (w2.alloc (.cells #[.string (txS zs p'), .int .u32 (tmN zs p')] 107)).grownBy w4 (Value.slice a9 l9 c9).ownBlock → RL w r a c zs mv last R (n0 - (j + 1)) (L ++ [tmAt zs p']) (tmP zs p') (tmB zs p' none) rp2 v' w4) := fun w2 rp2 v' w4 h1 h2 h3 h4 => by
          have hh := hL.out
          rw [hk.out] at hh
          rw [hl.out] at h3 h4
          exact hh.next h1 h2 _ h3 h4
        have hmid : Hid (∀ w2, wr.grownBy w2 (some r) → (w2.alloc (.cells #[.string (txS zs p'), .int .u32 (tmN zs p')] 107)).ownsRow w.heap.size 107 2 (.slice a9 l9 c9) l9 (rowT L) ∧ w.heap.size ≤ (w2.alloc (.cells #[.string (txS zs p'), .int .u32 (tmN zs p')] 107)).heap.size) := fun w2 h1 => by
          have := hL.out.mid h1 (.cells #[.string (txS zs p'), .int .u32 (tmN zs p')] 107)
          rw [← hl.out] at this
          exact ⟨this, by have := hL.out.g.size; have := h1.size; simp; omega⟩
        have hll : Hid (l9 + 1 = (L ++ [tmAt zs p']).length) := by show _ = _; rw [List.length_append, hl.out]; rfl
        generalize txS zs p' = S at *
        generalize tmN zs p' = Nn at *
        clear hL hl hk
        go_wp2_with (first
          | (go_at_call 32; (with_reducible refine (h32.out).mono ?_); rintro e w2 ⟨rfl, hw2⟩; subst w2)
          | (go_at_call 142; (with_reducible refine (h142.out).mono ?_); rintro e w3 ⟨rfl, g3, rp3, hR3⟩; obtain ⟨hm1, hm2⟩ := hmid.out w3 g3; replace g3 := Hid.intro g3; replace hR3 := Hid.intro hR3; replace hm1 := Hid.intro hm1)
          | (at_builtin; go_must (refine wpList_app rfl (.tmp 28) (.tmp 31) 82 rfl w.heap.size 107 i1 _ 2 24 Tryz.underlying82 hi1 hy0 hy1 hy2 rfl (by decide) (.slice a9 l9 c9) l9 (rowT L) rfl hm1.out (.slice (some ⟨w3.heap.size, 0, none⟩) 1 1) 1 [.string S, .int .u32 Nn] rfl (.inr ⟨_, _, rfl, cells_new w3 #[.string S, .int .u32 Nn] 107⟩) rfl (by simp [Value.oneCell']) (by unfold maxLen; omega) (by omega) hm2 ?_; intro v' w4 ho4 hg4 hw4; have hn4 := Hid.intro (hnx.out w3 rp3 v' w4 g3.out hR3.out ho4 hg4); obtain ⟨a4, c4, rfl⟩ := own_slice ho4; clear ho4 hg4 hw4)))
        all_goals first | omega | skip
        go_roundw
        case rel => exact ⟨j + 1, _, _, _, rp3, a4, l9 + 1, c4, by omega, by go_num, rfl, by omega, hll, by rw [← hll.out]; exact hn4⟩
        case measure => simp [intOf]; omega
    · obtain rfl : j = n0 := by omega
      go_wp2_with fail
      all_goals first | omega | skip
      go_ret
      have hres : R = (L, p', b') := by
        rw [← hL.out.res, Nat.sub_self, rdLoop]
      rw [hres, hl.out]
      exact ⟨_, rfl, hL.out.g, hL.out.own, rp', hL.out.rs⟩
end
end Go.Proofs.YtmndccbeddaphaaGreatDoor
namespace Go.Proofs.YtmndccbeddaphaaGreatDoor
open Go.ChangeShapes Go.WideShapes Go.ChangeAt Go.RowKit Go.Sort
set_option linter.unusedVariables false
set_option linter.unusedSimpArgs false
set_option maxRecDepth 100000
def liL (zs : List Int) (p : Nat) (b : Option (Int × Int)) : List Tm := (rdTerms zs p b).1
def liN (zs : List Int) (p : Nat) (b : Option (Int × Int)) : Int := rdV zs (rdTerms zs p b).2.1 4
def liP (zs : List Int) (p : Nat) (b : Option (Int × Int)) : Nat := rdP zs (rdTerms zs p b).2.1 4
def liB (zs : List Int) (p : Nat) (b : Option (Int × Int)) : Option (Int × Int) := rdB zs (rdTerms zs p b).2.1 4 (rdTerms zs p b).2.2
section
variable {w w' : World} {r : Nat} {a : Option Addr} {c : Nat} {zs : List Int} {p : Nat} {bad : Option (Int × Int)} {rp : Option Nat} {mv : Value} {last : List UInt8}
theorem RS.far (h : RS w r a c zs p bad rp mv last) {q : Nat} {xs : Array Value} {T : TypeId} {m : Nat × Nat} (hq : r < q) (hb : w.heap[q]? = some (.cells xs T m)) (hT : T ≠ 68) (hg : w.grownBy w' (some q)) : RS w' r a c zs p bad rp mv last := by
  refine ⟨(hg.block r (blk_lt h.blk) (fun e => by have := Option.some.inj e; omega)).trans h.blk, lies_grown h.lies (fun z hz => ⟨Nat.lt_trans (h.old z hz) (blk_lt h.blk), fun e => ?_⟩) hg, h.old, h.cap, h.few, h.at_, h.rf.grown (fun q' hq' e => ?_) hg⟩
  · have := h.old z hz; have e' := Option.some.inj e; omega
  · have e' := Option.some.inj e
    subst e'
    have h5 := h.rf
    cases hbb : bad with
    | none => rw [hbb] at h5; rw [hq'] at h5; cases h5
    | some f =>
      rw [hbb] at h5
      obtain ⟨q', h6, h7⟩ := h5
      rw [hq'] at h6
      cases h6
      rw [hb] at h7
      cases h7
      exact hT rfl
set_option maxHeartbeats 4000000 in
theorem lin_is (h : RS w r a c zs p bad rp mv last) : Calls Tryz.prog 116 #[.pointer (some ⟨r, 0, none⟩)] w fun e w' => ∃ v, e = .returned (.agg #[v, .int .u32 (liN zs p bad)]) ∧ w.grownBy w' (some r) ∧ w'.ownsRow w.heap.size 107 2 v (liL zs p bad).length (rowT (liL zs p bad)) ∧ ∃ rp', RS w' r a c zs (liP zs p bad) (liB zs p bad) rp' mv last := by
  have hlt := blk_lt h.blk
  have hA := Hid.intro (h.below (below_alloc w (.cells #[.slice none 0 0, .int .u32 0] 84)))
  have h141 := Hid.intro (readTerms_is hA.out)
  have h113 : Hid (∀ (w2 : World) rp2, RS w2 r a c zs (rdTerms zs p bad).2.1 (rdTerms zs p bad).2.2 rp2 mv last → Calls Tryz.prog 113 #[.pointer (some ⟨r, 0, none⟩), .int .i64 4] w2 fun e w' => e = .returned (.int .u32 (liN zs p bad)) ∧ w2.grownBy w' (some r) ∧ ∃ rp', RS w' r a c zs (liP zs p bad) (liB zs p bad) rp' mv last) := fun w2 rp2 hR => number_is hR 4 (.inr (.inr rfl))
  have hfin : Hid (∀ w2 w3 v y, (w.alloc (.cells #[.slice none 0 0, .int .u32 0] 84)).grownBy w2 (some r) → w2.ownsRow (w.alloc (.cells #[.slice none 0 0, .int .u32 0] 84)).heap.size 107 2 v (rdTerms zs p bad).1.length (rowT (rdTerms zs p bad).1) → w2.grownBy w3 (some r) → (∃ rp', RS w3 r a c zs (liP zs p bad) (liB zs p bad) rp' mv last) → w3.heap[w.heap.size]? = some (.cells #[.slice none 0 0, .int .u32 0] 84 (0, 0)) ∧ ((w3.setCell ⟨w.heap.size, 0, none⟩ v).setCell ⟨w.heap.size, 1, none⟩ y).heap[w.heap.size]? = some (.cells #[v, y] 84 (0, 0)) ∧ w.grownBy ((w3.setCell ⟨w.heap.size, 0, none⟩ v).setCell ⟨w.heap.size, 1, none⟩ y) (some r) ∧ ((w3.setCell ⟨w.heap.size, 0, none⟩ v).setCell ⟨w.heap.size, 1, none⟩ y).ownsRow w.heap.size 107 2 v (liL zs p bad).length (rowT (liL zs p bad)) ∧ ∃ rp', RS ((w3.setCell ⟨w.heap.size, 0, none⟩ v).setCell ⟨w.heap.size, 1, none⟩ y) r a c zs (liP zs p bad) (liB zs p bad) rp' mv last) := fun w2 w3 v y g1 ho g2 hR => by
    have hne : (w.heap.size : Nat) ≠ r := Nat.ne_of_gt hlt
    have g12 := grown_trans g1 g2
    have h0 := heap_alloc_new w (.cells #[.slice none 0 0, .int .u32 0] 84)
    have h3 := (g12.block _ (blk_lt h0) (fun e => hne (Option.some.inj e))).trans h0
    obtain ⟨s1, k1⟩ := row_set h3 0 v
    obtain ⟨s2, k2⟩ := row_set s1 1 y
    have k := grown_trans k1 k2
    have hsz : (w.alloc (.cells #[.slice none 0 0, .int .u32 0] 84)).heap.size = w.heap.size + 1 := by simp
    refine ⟨h3, s2, ?_, ?_, ?_⟩
    · exact grown_new (grown_trans (World.grownBy_alloc w (.cells #[.slice none 0 0, .int .u32 0] 84) (some r)) g12) k (fun g e => by have := Option.some.inj e; omega)
    · have h4 := own_low (own_low ho g2 (by rw [hsz]; omega)) k (by rw [hsz]; omega)
      exact own_weaken h4 (by rw [hsz]; omega)
    · obtain ⟨rp', hR⟩ := hR
      exact ⟨rp', hR.far hlt h3 (by decide) k⟩
  generalize liN zs p bad = n0 at *
  clear h hA
  go_enter Tryz.func116, Tryz.ntmps116
  go_wp2_with (first
    | (go_at_call 141; (with_reducible refine (h141.out).mono ?_); rintro e w2 ⟨v2, rfl, g1, ho2, rp2, hR2⟩; obtain ⟨a2, c2, rfl⟩ := own_slice ho2; replace g1 := Hid.intro g1; replace hR2 := Hid.intro hR2; replace ho2 := Hid.intro ho2)
    | (go_at_call 113; (with_reducible refine (h113.out _ rp2 hR2.out).mono ?_); rintro e w3 ⟨rfl, g2, hR3⟩; obtain ⟨k1, k2, k3, k4, k5⟩ := hfin.out w2 w3 _ (.int .u32 n0) g1.out ho2.out g2 hR3; obtain ⟨d0, d1⟩ := two_readR k1; have df := fun j => frozen_of_row w3 w.heap.size j _ 84 k1; replace k3 := Hid.intro k3; replace k4 := Hid.intro k4; replace k5 := Hid.intro k5; replace k2 := Hid.intro k2; clear k1 g2 hR3))
  all_goals first | omega | skip
  obtain ⟨z0, z1⟩ := two_readR k2.out
  refine bodyPost_ret (by simp [results, Tryz.results116, go_sem, z0, z1]; try rfl) rfl ?_
  exact ⟨_, rfl, k3.out, k4.out, k5.out⟩
end
end Go.Proofs.YtmndccbeddaphaaGreatDoor
namespace Go.Proofs.YtmndccbeddaphaaGreatDoor
open Go.ChangeShapes Go.WideShapes Go.ChangeAt Go.RowKit Go.WideMaps Go.Maps
set_option linter.unusedVariables false
set_option linter.unusedSimpArgs false
set_option maxRecDepth 100000
theorem SetIs.more {w : World} {b n n' : Nat} {g : List (List UInt8)} (h : SetIs w b n g) (hn : n ≤ n') : SetIs w b n' g := by
  obtain ⟨D, h1, h2, h3⟩ := h
  exact ⟨D, h1.mono hn, h2, h3⟩
set_option maxHeartbeats 4000000 in
theorem give_twice (r m n : Nat) (g : List (List UInt8)) (s : List UInt8) (hs : s.length ≤ 1100000) (hg : s ∈ g) (w : World) (hc : w.cell? ⟨r, 3, none⟩ = some (.map (some m))) (hS : SetIs w m n g) :
    Calls Tryz.prog 117 #[.pointer (some ⟨r, 0, none⟩), .string (str s)] w fun e w' => e = .returned (.bool false) ∧ w' = w.alloc (.cells #[] 164) := by
  have e1 := str_toList s
  have hl := setlook_run hS s hs
  rw [show decide (s ∈ g) = true by simp [hg]] at hl
  clear hS
  go_enter Tryz.func117, Tryz.ntmps117
  go_wp2
  go_ret
  exact ⟨rfl, rfl⟩
set_option maxHeartbeats 4000000 in
theorem give_new (r m n : Nat) (g : List (List UInt8)) (s : List UInt8) (hs : s.length ≤ 1100000) (hg : s ∉ g) (hn : n ≤ 3000000) (w : World) (hc : w.cell? ⟨r, 3, none⟩ = some (.map (some m))) (hS : SetIs w m n g) (hb : r < w.heap.size) :
    Calls Tryz.prog 117 #[.pointer (some ⟨r, 0, none⟩), .string (str s)] w fun e w' => e = .returned (.bool true) ∧ SetIs w' m (n + 1) (g ++ [s]) ∧ w.grownBy w' (some m) := by
  have e1 := str_toList s
  have hl := setlook_run hS s hs
  rw [show decide (s ∈ g) = false by simp [hg]] at hl
  have hS1 : SetIs (w.alloc (.cells #[] 164)) m n g := hS.kept (World.grownBy_alloc w (.cells #[] 164) none) (by simp)
  obtain ⟨w2, hu, hS2, hg2⟩ := setput_run hS1 hn s hs
  have hgr : Hid (w.grownBy w2 (some m)) := (World.grownBy_alloc w (.cells #[] 164) (some m)).trans hg2
  replace hS2 := Hid.intro hS2
  have hc1 : (w.alloc (.cells #[] 164)).cell? ⟨r, 3, none⟩ = some (.map (some m)) := by rw [World.cell?_alloc_lt _ _ ⟨r, 3, none⟩ hb]; exact hc
  clear hS hS1 hg2
  go_enter Tryz.func117, Tryz.ntmps117
  go_wp2
  go_ret
  exact ⟨rfl, hS2.out, hgr.out⟩
def givN (g : List (List UInt8)) (s : List UInt8) : List (List UInt8) := if s ∈ g then g else g ++ [s]
theorem give_is (r m n : Nat) (g : List (List UInt8)) (s : List UInt8) (hs : s.length ≤ 1100000) (hn : n ≤ 3000000) (w : World) (hc : w.cell? ⟨r, 3, none⟩ = some (.map (some m))) (hS : SetIs w m n g) (hb : r < w.heap.size) :
    Calls Tryz.prog 117 #[.pointer (some ⟨r, 0, none⟩), .string (str s)] w fun e w' => e = .returned (.bool (decide (s ∉ g))) ∧ SetIs w' m (n + 1) (givN g s) ∧ w.grownBy w' (some m) := by
  unfold givN
  by_cases h : s ∈ g
  · refine (give_twice r m n g s hs h w hc hS).mono ?_
    rintro e w' ⟨rfl, rfl⟩
    rw [if_pos h]
    exact ⟨by simp [h], (hS.kept (World.grownBy_alloc w (.cells #[] 164) none) (by simp)).more (by omega), World.grownBy_alloc w _ _⟩
  · refine (give_new r m n g s hs h hn w hc hS hb).mono ?_
    rintro e w' ⟨rfl, h1, h2⟩
    rw [if_neg h]
    exact ⟨by simp [h], h1, h2⟩
end Go.Proofs.YtmndccbeddaphaaGreatDoor
namespace Go.Proofs.YtmndccbeddaphaaGreatDoor
open Go.ChangeShapes Go.WideShapes Go.ChangeAt Go.RowKit
set_option linter.unusedVariables false
set_option linter.unusedSimpArgs false
set_option maxRecDepth 100000
theorem hasExpr_is (op : Int) (w : World) (hT : Tab w) : Calls Tryz.prog 134 #[.int .i64 op] w fun e w' => e = .returned (.bool (shE (shapeN op))) ∧ Below w.heap.size w w' := by
  have hat := Hid.intro (at_parts op w hT)
  generalize shapeN op = S at hat ⊢
  generalize decide (1 ≤ op ∧ op ≤ 43) = ok at hat
  clear hT
  by_cases h10 : S = 10
  · subst h10
    go_enter Tryz.func134, Tryz.ntmps134
    go_wp2_with (go_at_call 170; (with_reducible refine (hat.out).mono ?_); rintro e w1 ⟨⟨s1, b1, rfl⟩, hb1⟩)
    all_goals first | omega | skip
    go_ret
    exact ⟨rfl, hb1.alloc hb1.size _⟩
  by_cases h11 : S = 11
  · subst h11
    go_enter Tryz.func134, Tryz.ntmps134
    go_wp2_with (go_at_call 170; (with_reducible refine (hat.out).mono ?_); rintro e w1 ⟨⟨s1, b1, rfl⟩, hb1⟩)
    all_goals first | omega | skip
    go_ret
    exact ⟨rfl, hb1.alloc hb1.size _⟩
  by_cases h12 : S = 12
  · subst h12
    go_enter Tryz.func134, Tryz.ntmps134
    go_wp2_with (go_at_call 170; (with_reducible refine (hat.out).mono ?_); rintro e w1 ⟨⟨s1, b1, rfl⟩, hb1⟩)
    all_goals first | omega | skip
    go_ret
    exact ⟨rfl, hb1.alloc hb1.size _⟩
  by_cases h13 : S = 13
  · subst h13
    go_enter Tryz.func134, Tryz.ntmps134
    go_wp2_with (go_at_call 170; (with_reducible refine (hat.out).mono ?_); rintro e w1 ⟨⟨s1, b1, rfl⟩, hb1⟩)
    all_goals first | omega | skip
    go_ret
    exact ⟨rfl, hb1.alloc hb1.size _⟩
  have hno : shE S = false := by simp [shE, h10, h11, h12, h13]
  rw [hno]
  have g10 : (S == 10) = false := by simp [h10]
  have g11 : (S == 11) = false := by simp [h11]
  have g12 : (S == 12) = false := by simp [h12]
  have g13 : (S == 13) = false := by simp [h13]
  go_enter Tryz.func134, Tryz.ntmps134
  go_wp2_with (go_at_call 170; (with_reducible refine (hat.out).mono ?_); rintro e w1 ⟨⟨s1, b1, rfl⟩, hb1⟩)
  all_goals first | omega | skip
  go_ret
  exact ⟨rfl, hb1.alloc hb1.size _⟩
structure G2 (w w' : World) (r q : Nat) : Prop where
  os : w'.os = w.os
  tape : w'.tape = w.tape
  output : w'.output = w.output
  size : w.heap.size ≤ w'.heap.size
  block : ∀ j, j < w.heap.size → j ≠ r → j ≠ q → w'.heap[j]? = w.heap[j]?
theorem G2.refl (w : World) (r q : Nat) : G2 w w r q := ⟨rfl, rfl, rfl, Nat.le_refl _, fun _ _ _ _ => rfl⟩
theorem G2.trans {w w1 w2 : World} {r q : Nat} (h : G2 w w1 r q) (g : G2 w1 w2 r q) : G2 w w2 r q :=
  ⟨g.os.trans h.os, g.tape.trans h.tape, g.output.trans h.output, Nat.le_trans h.size g.size, fun j hj h1 h2 => (g.block j (Nat.lt_of_lt_of_le hj h.size) h1 h2).trans (h.block j hj h1 h2)⟩
theorem G2.of {w w' : World} {k : Option Nat} {r q : Nat} (h : w.grownBy w' k) (hk : ∀ j, k = some j → j = r ∨ j = q ∨ w.heap.size ≤ j) : G2 w w' r q :=
  ⟨h.os, h.tape, h.output, h.size, fun j hj h1 h2 => h.block j hj (fun e => by rcases hk j e.symm with h3 | h3 | h3; exact h1 h3; exact h2 h3; omega)⟩
theorem G2.grown {w w' : World} {r q : Nat} (h : G2 w w' r q) (hq : q = r ∨ w.heap.size ≤ q) : w.grownBy w' (some r) :=
  ⟨h.os, h.tape, h.output, h.size, fun j hj h1 => h.block j hj (fun e => h1 (by rw [e])) (fun e => by rcases hq with h3 | h3; exact h1 (by rw [e, h3]); omega)⟩
section
variable {w w' : World} {r : Nat} {a : Option Addr} {c : Nat} {zs : List Int} {p : Nat} {bad : Option (Int × Int)} {rp : Option Nat} {mv : Value} {last : List UInt8}
theorem num1_is (h : RS w r a c zs p bad rp mv last) : Calls Tryz.prog 113 #[.pointer (some ⟨r, 0, none⟩), .int .i64 1] w fun e w' => e = .returned (.int .u32 (rdV zs p 1)) ∧ w.grownBy w' (some r) ∧ ∃ rp', RS w' r a c zs (rdP zs p 1) (rdB zs p 1 bad) rp' mv last := number_is h 1 (.inl rfl)
theorem num2_is (h : RS w r a c zs p bad rp mv last) : Calls Tryz.prog 113 #[.pointer (some ⟨r, 0, none⟩), .int .i64 2] w fun e w' => e = .returned (.int .u32 (rdV zs p 2)) ∧ w.grownBy w' (some r) ∧ ∃ rp', RS w' r a c zs (rdP zs p 2) (rdB zs p 2 bad) rp' mv last := number_is h 2 (.inr (.inl rfl))
theorem num4_is (h : RS w r a c zs p bad rp mv last) : Calls Tryz.prog 113 #[.pointer (some ⟨r, 0, none⟩), .int .i64 4] w fun e w' => e = .returned (.int .u32 (rdV zs p 4)) ∧ w.grownBy w' (some r) ∧ ∃ rp', RS w' r a c zs (rdP zs p 4) (rdB zs p 4 bad) rp' mv last := number_is h 4 (.inr (.inr rfl))
theorem rdV_wd {zs : List Int} (hz : O.AreBytes zs) (p wd : Nat) : 0 ≤ rdV zs p wd ∧ rdV zs p wd < 256 ^ wd := by
  unfold rdV
  split
  · have hb := O.leN_bd ((zs.drop p).take wd) (O.areBytes_take _ (O.areBytes_drop _ hz _) wd)
    have hl : ((zs.drop p).take wd).length = wd := by simp; omega
    rw [hl] at hb
    exact hb
  · exact ⟨by omega, by exact_mod_cast Nat.pos_of_ne_zero (by simp)⟩
structure CI (w0 : World) (r : Nat) (a : Option Addr) (c : Nat) (zs : List Int) (mv : Value) (last : List UInt8) (q : Nat) (A : Array Value) (p : Nat) (bad : Option (Int × Int)) (rp : Option Nat) (w : World) : Prop where
  rs : RS w r a c zs p bad rp mv last
  row : w.heap[q]? = some (.cells A 86 (0, 0))
  gr : G2 w0 w r q
  tab : Tab w
  lo : 3 ≤ r
  lt : r < q
variable {w0 : World} {q : Nat} {A : Array Value}
theorem CI.num (h : CI w0 r a c zs mv last q A p bad rp w) {p' : Nat} {bad' : Option (Int × Int)} {rp' : Option Nat} (hg : w.grownBy w' (some r)) (hR : RS w' r a c zs p' bad' rp' mv last) : CI w0 r a c zs mv last q A p' bad' rp' w' :=
  ⟨hR, (hg.block q (blk_lt h.row) (fun e => by have := Option.some.inj e; have := h.lt; omega)).trans h.row, h.gr.trans (.of hg (fun j e => .inl (Option.some.inj e).symm)), h.tab.grown hg h.lo, h.lo, h.lt⟩
theorem CI.set (h : CI w0 r a c zs mv last q A p bad rp w) (j : Nat) (y : Value) : CI w0 r a c zs mv last q (A.setIfInBounds j y) p bad rp (w.setCell ⟨q, j, none⟩ y) := by
  obtain ⟨s1, k1⟩ := row_set h.row j y
  exact ⟨h.rs.far h.lt h.row (by decide) k1, s1, h.gr.trans (.of k1 (fun j e => .inr (.inl (Option.some.inj e).symm))), h.tab.grown k1 (by have := h.lt; have := h.lo; omega), h.lo, h.lt⟩
theorem CI.below (h : CI w0 r a c zs mv last q A p bad rp w) (hb : Below w.heap.size w w') : CI w0 r a c zs mv last q A p bad rp w' :=
  ⟨h.rs.below hb, (hb.block q (blk_lt h.row)).trans h.row, h.gr.trans (.of (grown_of_below hb) (fun j e => by cases e)), h.tab.below hb h.tab.size, h.lo, h.lt⟩
def cdOp (zs : List Int) (p : Nat) : Int := rdV zs p 1
def cdA (zs : List Int) (p : Nat) : Int := rdV zs (rdP zs p 1) 1
def cdB (zs : List Int) (p : Nat) : Int := rdV zs (rdP zs (rdP zs p 1) 1) 1
def cdM (zs : List Int) (p : Nat) : Int := O.sgn (rdV zs (rdP zs (rdP zs (rdP zs p 1) 1) 1) 4) 4
def cdQ (zs : List Int) (p : Nat) : Nat := rdP zs (rdP zs (rdP zs (rdP zs p 1) 1) 1) 4
def cdF (zs : List Int) (p : Nat) (bad : Option (Int × Int)) : Option (Int × Int) := rdB zs (rdP zs (rdP zs (rdP zs p 1) 1) 1) 4 (rdB zs (rdP zs (rdP zs p 1) 1) 1 (rdB zs (rdP zs p 1) 1 (rdB zs p 1 bad)))
def cdL (zs : List Int) (p : Nat) (b : Option (Int × Int)) : List Tm := if shE (shapeN (cdOp zs p)) then liL zs (cdQ zs p) (cdF zs p b) else []
def cdN (zs : List Int) (p : Nat) (b : Option (Int × Int)) : Int := if shE (shapeN (cdOp zs p)) then liN zs (cdQ zs p) (cdF zs p b) else 0
def cdP (zs : List Int) (p : Nat) (b : Option (Int × Int)) : Nat := if shE (shapeN (cdOp zs p)) then liP zs (cdQ zs p) (cdF zs p b) else cdQ zs p
def cdE (zs : List Int) (p : Nat) (b : Option (Int × Int)) : Option (Int × Int) := if shE (shapeN (cdOp zs p)) then liB zs (cdQ zs p) (cdF zs p b) else cdF zs p b
set_option maxHeartbeats 8000000 in
theorem code_is (k : Int) (s : ByteArray) (n : Int) (hC : CI w0 r a c zs mv last q (itA k s 0 0 0 0 0 none 0 0 0 n) p bad rp w) : Calls Tryz.prog 138 #[.pointer (some ⟨r, 0, none⟩), .pointer (some ⟨q, 0, none⟩)] w fun e w' => e = .returned (.tuple #[]) ∧ ∃ rp' va vc, CI w0 r a c zs mv last q (itA k s (cdOp zs p) (cdA zs p) (cdB zs p) (cdM zs p) 0 va (cdL zs p bad).length vc (cdN zs p bad) n) (cdP zs p bad) (cdE zs p bad) rp' w' ∧ w'.ownsRow w.heap.size 107 2 (.slice va (cdL zs p bad).length vc) (cdL zs p bad).length (rowT (cdL zs p bad)) := by
  have hz := hC.rs.lies.1
  have hv1 := rdV_wd hz p 1
  have hv2 := rdV_wd hz (rdP zs p 1) 1
  have hv3 := rdV_wd hz (rdP zs (rdP zs p 1) 1) 1
  have hv4 := rdV_wd hz (rdP zs (rdP zs (rdP zs p 1) 1) 1) 4
  have n1 : Hid (∀ w1 rp1, RS w1 r a c zs p bad rp1 mv last → _) := fun w1 rp1 h => num1_is h
  have n2 : Hid (∀ w1 rp1, RS w1 r a c zs (rdP zs p 1) (rdB zs p 1 bad) rp1 mv last → _) := fun w1 rp1 h => num1_is h
  have n3 : Hid (∀ w1 rp1, RS w1 r a c zs (rdP zs (rdP zs p 1) 1) (rdB zs (rdP zs p 1) 1 (rdB zs p 1 bad)) rp1 mv last → _) := fun w1 rp1 h => num1_is h
  have n4 : Hid (∀ w1 rp1, RS w1 r a c zs (rdP zs (rdP zs (rdP zs p 1) 1) 1) (rdB zs (rdP zs (rdP zs p 1) 1) 1 (rdB zs (rdP zs p 1) 1 (rdB zs p 1 bad))) rp1 mv last → _) := fun w1 rp1 h => num4_is h
  have e1 : rdV zs p 1 = cdOp zs p := rfl
  have e2 : rdV zs (rdP zs p 1) 1 = cdA zs p := rfl
  have e3 : rdV zs (rdP zs (rdP zs p 1) 1) 1 = cdB zs p := rfl
  have e5 : rdP zs (rdP zs (rdP zs (rdP zs p 1) 1) 1) 4 = cdQ zs p := rfl
  have e6 : rdB zs (rdP zs (rdP zs (rdP zs p 1) 1) 1) 4 (rdB zs (rdP zs (rdP zs p 1) 1) 1 (rdB zs (rdP zs p 1) 1 (rdB zs p 1 bad))) = cdF zs p bad := rfl
  have hm : cdM zs p = O.sgn (rdV zs (rdP zs (rdP zs (rdP zs p 1) 1) 1) 4) 4 := rfl
  rw [e1] at n1 hv1
  rw [e2] at n2 hv2
  rw [e3] at n3 hv3
  rw [e5, e6] at n4
  rw [hm]
  clear e1 e2 e3 e5 e6 hm hz
  generalize rdV zs (rdP zs (rdP zs (rdP zs p 1) 1) 1) 4 = M at *
  unfold cdL cdN cdP cdE
  generalize cdOp zs p = Op at *
  generalize cdA zs p = Aa at *
  generalize cdB zs p = Bb at *
  generalize cdQ zs p = Q at *
  generalize cdF zs p bad = F at *
  generalize rdP zs (rdP zs (rdP zs p 1) 1) 1 = p3 at *
  generalize rdB zs (rdP zs (rdP zs p 1) 1) 1 (rdB zs (rdP zs p 1) 1 (rdB zs p 1 bad)) = b3 at *
  generalize rdP zs (rdP zs p 1) 1 = p2 at *
  generalize rdB zs (rdP zs p 1) 1 (rdB zs p 1 bad) = b2 at *
  generalize rdP zs p 1 = p1 at *
  generalize rdB zs p 1 bad = b1 at *
  have hli : Hid (∀ w1 rp1, RS w1 r a c zs Q F rp1 mv last → _) := fun w1 rp1 h => lin_is h
  generalize liN zs Q F = Ln at *
  have h139 := Hid.intro (fun w1 => O.signed_any M 4 w1)
  have h134 := Hid.intro (fun w1 hT => hasExpr_is Op w1 hT)
  generalize O.sgn M 4 = Mm at *
  have hqz := Nat.lt_of_lt_of_le (blk_lt hC.row) (Nat.le_refl _)
  have hgr0 : Hid (w.heap.size ≤ w.heap.size) := Nat.le_refl _
  have hC0 := Hid.intro hC
  clear hC
  simp only [Int.reducePow] at hv1 hv2 hv3 hv4
  have hS : Hid (shE (shapeN Op) = shE (shapeN Op)) := rfl
  generalize hSS : shE (shapeN Op) = S at *
  clear hS hSS
  cases S with
  | false =>
    simp only [Bool.false_eq_true, if_false]
    go_enter Tryz.func138, Tryz.ntmps138
    go_wp2_with (first | (go_at_call 113; (with_reducible refine (n1.out _ _ hC0.out.rs).mono ?_); rintro e w1 ⟨rfl, g1, rp1, hR1⟩; have hz1 := g1.size; have hD1 := Hid.intro (hC0.out.num g1 hR1); have d1 := (rowIt hD1.out.row).2.2.1; have f1 := fun j => frozen_of_row w1 q j _ 86 hD1.out.row; have hC1 := Hid.intro (hD1.out.set 2 (.int .i64 Op)); clear g1 hR1 hC0) | (go_at_call 113; (with_reducible refine (n2.out _ _ hC1.out.rs).mono ?_); rintro e w2 ⟨rfl, g2, rp2, hR2⟩; have hz2 := g2.size; have hD2 := Hid.intro (hC1.out.num g2 hR2); have d2 := (rowIt hD2.out.row).2.2.2.1; have f2 := fun j => frozen_of_row w2 q j _ 86 hD2.out.row; have hC2 := Hid.intro (hD2.out.set 3 (.int .i64 Aa)); clear g2 hR2 hC1) | (go_at_call 113; (with_reducible refine (n3.out _ _ hC2.out.rs).mono ?_); rintro e w3 ⟨rfl, g3, rp3, hR3⟩; have hz3 := g3.size; have hD3 := Hid.intro (hC2.out.num g3 hR3); have d3 := (rowIt hD3.out.row).2.2.2.2.1; have f3 := fun j => frozen_of_row w3 q j _ 86 hD3.out.row; have hC3 := Hid.intro (hD3.out.set 4 (.int .i64 Bb)); clear g3 hR3 hC2) | (go_at_call 113; (with_reducible refine (n4.out _ _ hC3.out.rs).mono ?_); rintro e w4 ⟨rfl, g4, rp4, hR4⟩; have hz4 := g4.size; have hD4 := Hid.intro (hC3.out.num g4 hR4); have d4 := (rowIt hD4.out.row).2.2.2.2.2.1; have f4 := fun j => frozen_of_row w4 q j _ 86 hD4.out.row; have hC4 := Hid.intro (hD4.out.set 5 (.int .i32 Mm)); clear g4 hR4 hC3) | (go_at_call 139; (with_reducible refine (h139.out _).mono ?_); rintro e w9 ⟨rfl, hw9⟩; subst w9; have c4 := (rowIt hC4.out.row).2.2.1) | (go_at_call 134; (with_reducible refine (h134.out _ hC4.out.tab).mono ?_); rintro e w5 ⟨rfl, hb5⟩; have hz5 := hb5.size; have hC5 := Hid.intro (hC4.out.below hb5)))
    all_goals first | omega | skip
    go_end0
    exact ⟨rfl, _, none, 0, hC5.out, World.ownsRow_nil _ _ _ _⟩
  | true =>
    simp only [if_true]
    go_enter Tryz.func138, Tryz.ntmps138
    go_wp2_with (first | (go_at_call 113; (with_reducible refine (n1.out _ _ hC0.out.rs).mono ?_); rintro e w1 ⟨rfl, g1, rp1, hR1⟩; have hz1 := g1.size; have hD1 := Hid.intro (hC0.out.num g1 hR1); have d1 := (rowIt hD1.out.row).2.2.1; have f1 := fun j => frozen_of_row w1 q j _ 86 hD1.out.row; have hC1 := Hid.intro (hD1.out.set 2 (.int .i64 Op)); clear g1 hR1 hC0) | (go_at_call 113; (with_reducible refine (n2.out _ _ hC1.out.rs).mono ?_); rintro e w2 ⟨rfl, g2, rp2, hR2⟩; have hz2 := g2.size; have hD2 := Hid.intro (hC1.out.num g2 hR2); have d2 := (rowIt hD2.out.row).2.2.2.1; have f2 := fun j => frozen_of_row w2 q j _ 86 hD2.out.row; have hC2 := Hid.intro (hD2.out.set 3 (.int .i64 Aa)); clear g2 hR2 hC1) | (go_at_call 113; (with_reducible refine (n3.out _ _ hC2.out.rs).mono ?_); rintro e w3 ⟨rfl, g3, rp3, hR3⟩; have hz3 := g3.size; have hD3 := Hid.intro (hC2.out.num g3 hR3); have d3 := (rowIt hD3.out.row).2.2.2.2.1; have f3 := fun j => frozen_of_row w3 q j _ 86 hD3.out.row; have hC3 := Hid.intro (hD3.out.set 4 (.int .i64 Bb)); clear g3 hR3 hC2) | (go_at_call 113; (with_reducible refine (n4.out _ _ hC3.out.rs).mono ?_); rintro e w4 ⟨rfl, g4, rp4, hR4⟩; have hz4 := g4.size; have hD4 := Hid.intro (hC3.out.num g4 hR4); have d4 := (rowIt hD4.out.row).2.2.2.2.2.1; have f4 := fun j => frozen_of_row w4 q j _ 86 hD4.out.row; have hC4 := Hid.intro (hD4.out.set 5 (.int .i32 Mm)); clear g4 hR4 hC3) | (go_at_call 139; (with_reducible refine (h139.out _).mono ?_); rintro e w9 ⟨rfl, hw9⟩; subst w9; have c4 := (rowIt hC4.out.row).2.2.1) | (go_at_call 134; (with_reducible refine (h134.out _ hC4.out.tab).mono ?_); rintro e w5 ⟨rfl, hb5⟩; have hz5 := hb5.size; have hC5 := Hid.intro (hC4.out.below hb5)) | (go_at_call 116; (with_reducible refine (hli.out _ _ hC5.out.rs).mono ?_); rintro e w6 ⟨v6, rfl, g6, ho6, rp6, hR6⟩; obtain ⟨a6, c6, rfl⟩ := own_slice ho6; have hz6 := g6.size; have hD6 := Hid.intro (hC5.out.num g6 hR6); have d6 := (rowIt hD6.out.row).2.2.2.2.2.2.2.1; have d7 := (rowIt hD6.out.row).2.2.2.2.2.2.2.2.1; have f6 := fun j => frozen_of_row w6 q j _ 86 hD6.out.row; replace ho6 := Hid.intro ho6; clear g6 hR6))
    all_goals first | omega | skip
    go_end0
    have hC7 := (hD6.out.set 7 (.slice a6 (liL zs Q F).length c6)).set 8 (.int .u32 Ln)
    have hs0 : w.heap.size ≤ w5.heap.size := by simp at *; omega
    have k1 := (row_set hD6.out.row 7 (.slice a6 (liL zs Q F).length c6)).2
    have k2 := (row_set (hD6.out.set 7 (.slice a6 (liL zs Q F).length c6)).row 8 (.int .u32 Ln)).2
    exact ⟨rfl, _, a6, c6, hC7, own_weaken (own_low (own_low ho6.out k1 (by simp at *; omega)) k2 (by simp at *; omega)) hs0⟩
end
end Go.Proofs.YtmndccbeddaphaaGreatDoor
