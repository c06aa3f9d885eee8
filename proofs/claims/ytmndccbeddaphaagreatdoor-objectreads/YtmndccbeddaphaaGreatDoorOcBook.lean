/- Contracts of the book of memory's Same, Roomy and Intact, over bytes. -/
import Derived.Test.YtmndccbeddaphaaGreatDoorOrd4
import Derived.Test.YtmndccbeddaphaaGreatDoorCp
import Derived.Test.YtmndccbeddaphaaGreatDoorOcGets0
import Derived.Deep.QuietTactic
import Derived.BigQuiet
import Derived.WalkSmall
import Derived.WalkSpells
import Derived.Laws.CopyOwn
/- object's reader: a list of terms, a Lin. -/
namespace Go.Proofs.YtmndccbeddaphaaGreatDoor
open Go.ChangeShapes Go.WideShapes Go.ChangeAt Go.RowKit Go.Sort
set_option linter.unusedVariables false
set_option linter.unusedSimpArgs false
set_option maxRecDepth 100000
def txL (zs : List Int) (p : Nat) : List UInt8 := (txS zs p).data.toList
theorem str_txL (zs : List Int) (p : Nat) : str (txL zs p) = txS zs p := by unfold txL str; simp
def tmAt (zs : List Int) (p : Nat) : Tm := ⟨txL zs p, tmN zs p⟩
def rdLoop (zs : List Int) : Nat → List Tm → Nat → Option (Int × Int) → List Tm × Nat × Option (Int × Int)
  | 0, acc, p, b => (acc, p, b)
  | k + 1, acc, p, b => if b.isSome then ([], p, b) else rdLoop zs k (acc ++ [tmAt zs p]) (tmP zs p) (tmB zs p b)
def rdTerms (zs : List Int) (p : Nat) (b : Option (Int × Int)) : List Tm × Nat × Option (Int × Int) := rdLoop zs (rdV zs p 2).toNat [] (rdP zs p 2) (rdB zs p 2 b)
theorem rdV_bd {zs : List Int} (hz : O.AreBytes zs) (p : Nat) : 0 ≤ rdV zs p 2 ∧ rdV zs p 2 ≤ 65535 := by
  unfold rdV
  split
  · have hb := O.leN_bd ((zs.drop p).take 2) (O.areBytes_take _ (O.areBytes_drop _ hz _) 2)
    have hl : ((zs.drop p).take 2).length = 2 := by simp; omega
    rw [hl] at hb
    omega
  · omega
section
variable {w w' : World} {r : Nat} {a : Option Addr} {c : Nat} {zs : List Int} {p : Nat} {bad : Option (Int × Int)} {rp : Option Nat} {mv : Value} {last : List UInt8}
theorem RS.off (h : RS w r a c zs p bad rp mv last) {lo : Nat} {T : TypeId} {sz n : Nat} {v : Value} {xs : List Value} (hr : w.ownsRow lo T sz v n xs) (hlo : r < lo) (hT : T ≠ 68) (hg : w.grownBy w' v.ownBlock) : RS w' r a c zs p bad rp mv last := by
  have hne : ∀ g, v.ownBlock = some g → lo ≤ g := fun g hgg => (hr.lt g hgg).1
  refine ⟨(hg.block r (blk_lt h.blk) (fun e => ?_)).trans h.blk, lies_grown h.lies (fun x hx => ⟨Nat.lt_trans (h.old x hx) (blk_lt h.blk), fun e => ?_⟩) hg, h.old, h.cap, h.few, h.at_, h.rf.grown (fun q hq e => ?_) hg⟩
  · have := hne r e.symm; omega
  · have := hne _ e; have := h.old x hx; omega
  · cases hb : bad with
    | none => have h5 := h.rf; rw [hb, hq] at h5; cases h5
    | some f =>
      have h5 := h.rf
      rw [hb] at h5
      obtain ⟨q', h6, h7⟩ := h5
      rw [hq] at h6
      cases h6
      rcases hr.2 with ⟨rfl, _⟩ | ⟨g', cap, cur, rfl, _, hgg, _⟩
      · simp [Value.ownBlock] at e
      · simp [Value.ownBlock] at e
        subst e
        rw [hgg] at h7
        cases h7
        exact hT rfl
theorem grown_new {w3 w4 : World} {k k2 : Option Nat} (h1 : w.grownBy w3 k) (h2 : w3.grownBy w4 k2) (hk : ∀ g, k2 = some g → w.heap.size ≤ g) : w.grownBy w4 k :=
  ⟨by rw [h2.os, h1.os], by rw [h2.tape, h1.tape], by rw [h2.output, h1.output], Nat.le_trans h1.size h2.size, fun j hj hjk => by rw [h2.block j (Nat.lt_of_lt_of_le hj h1.size) (fun e => by have := hk j e.symm; omega), h1.block j hj hjk]⟩
structure RL (w : World) (r : Nat) (a : Option Addr) (c : Nat) (zs : List Int) (mv : Value) (last : List UInt8) (R : List Tm × Nat × Option (Int × Int)) (k : Nat) (L : List Tm) (p : Nat) (b : Option (Int × Int)) (rp : Option Nat) (v : Value) (wr : World) : Prop where
  rs : RS wr r a c zs p b rp mv last
  own : wr.ownsRow w.heap.size 107 2 v L.length (rowT L)
  g : w.grownBy wr (some r)
  res : rdLoop zs k L p b = R
  lt : r < w.heap.size
theorem RL.mid {R : List Tm × Nat × Option (Int × Int)} {k : Nat} {L : List Tm} {v : Value} {wr w2 : World} (h : RL w r a c zs mv last R k L p bad rp v wr) (hg : wr.grownBy w2 (some r)) (o : Obj) : (w2.alloc o).ownsRow w.heap.size 107 2 v L.length (rowT L) := own_keptB (own_low h.own hg h.lt) (below_alloc w2 o)
theorem RL.next {R : List Tm × Nat × Option (Int × Int)} {k : Nat} {L : List Tm} {v v' : Value} {wr w2 w4 : World} {rp2 : Option Nat} (h : RL w r a c zs mv last R (k + 1) L p none rp v wr) (hg : wr.grownBy w2 (some r)) (hR : RS w2 r a c zs (tmP zs p) (tmB zs p none) rp2 mv last) (o : Obj)
    (ho : w4.ownsRow w.heap.size 107 2 v' (L.length + 1) (rowT L ++ [.string (txS zs p), .int .u32 (tmN zs p)])) (hg4 : (w2.alloc o).grownBy w4 v.ownBlock) : RL w r a c zs mv last R k (L ++ [tmAt zs p]) (tmP zs p) (tmB zs p none) rp2 v' w4 := by
  have hm := h.mid hg o
  refine ⟨(hR.below (below_alloc w2 o)).off hm h.lt (by decide) hg4, ?_, ?_, ?_, h.lt⟩
  · have e : rowT (L ++ [tmAt zs p]) = rowT L ++ [.string (txS zs p), .int .u32 (tmN zs p)] := by
      unfold rowT
      rw [List.flatMap_append]
      simp [Tm.cells, tmAt, str_txL]
    rw [e, List.length_append]
    exact ho
  · exact grown_new (grown_trans h.g (grown_trans hg (World.grownBy_alloc w2 o (some r)))) hg4 (fun g hgg => (hm.lt g hgg).1)
  · have := h.res
    rw [rdLoop] at this
    simpa using this
set_option maxHeartbeats 8000000 in
theorem readTerms_is (h : RS w r a c zs p bad rp mv last) : Calls Tryz.prog 141 #[.pointer (some ⟨r, 0, none⟩), .int .i64 65535, .func (.func 142) #[.pointer (some ⟨r, 0, none⟩)] #[]] w fun e w' => ∃ v, e = .returned v ∧ w.grownBy w' (some r) ∧ w'.ownsRow w.heap.size 107 2 v (rdTerms zs p bad).1.length (rowT (rdTerms zs p bad).1) ∧ ∃ rp', RS w' r a c zs (rdTerms zs p bad).2.1 (rdTerms zs p bad).2.2 rp' mv last := by
  obtain ⟨i1, hi1, hy0, hy1, hy2⟩ := info_parts info123
  have hbd := rdV_bd h.lies.1 p
  have hlt := blk_lt h.blk
  obtain ⟨_, c1, _, _, _⟩ := five_read h.blk
  have h113 : Hid (Calls Tryz.prog 113 #[.pointer (some ⟨r, 0, none⟩), .int .i64 2] w fun e w' => e = .returned (.int .u32 (rdV zs p 2)) ∧ w.grownBy w' (some r) ∧ ∃ rp', RS w' r a c zs (rdP zs p 2) (rdB zs p 2 bad) rp' mv last) := number_is h 2 (.inr (.inl rfl))
  have hR : Hid (rdLoop zs (rdV zs p 2).toNat [] (rdP zs p 2) (rdB zs p 2 bad) = rdTerms zs p bad) := rfl
  generalize rdTerms zs p bad = R at *
  obtain ⟨n0, hn0⟩ : ∃ n0 : Nat, rdV zs p 2 = (n0 : Int) := ⟨(rdV zs p 2).toNat, by omega⟩
  rw [hn0] at h113 hR hbd
  have hn1 : n0 ≤ 65535 := by omega
  rw [Int.toNat_natCast] at hR
  clear hn0 hbd
  have hltH := Hid.intro hlt
  clear h hlt
  go_enter Tryz.func141, Tryz.ntmps141
  go_wp2_with (go_at_call 113; (with_reducible refine (h113.out).mono ?_); rintro e w1 ⟨rfl, g1, rp1, hR1⟩; replace g1 := Hid.intro g1; replace hR1 := Hid.intro hR1)
  all_goals first | omega | skip
  have hL0 : Hid (RL w r a c zs mv last R n0 [] (rdP zs p 2) (rdB zs p 2 bad) rp1 (.slice none 0 0) w1) := ⟨hR1.out, World.ownsRow_nil _ _ _ _, g1.out, hR.out, hltH.out⟩
  clear g1 hR1 h113 hR c1
  go_loopw [9, 24] (fun v9 v24 wr => ∃ (j : Nat) (L : List Tm) (p' : Nat) (b' : Option (Int × Int)) (rp' : Option Nat) (a9 : Option Addr) (l9 c9 : Nat), j ≤ n0 ∧ v24 = .int .i64 (j : Int) ∧ v9 = .slice a9 l9 c9 ∧ l9 ≤ j ∧ Hid (l9 = L.length) ∧ Hid (RL w r a c zs mv last R (n0 - j) L p' b' rp' (.slice a9 L.length c9) wr)) (fun v9 v24 _ => n0 - (intOf v24).toNat)
  case atStart => exact ⟨0, [], _, _, _, none, 0, 0, by omega, rfl, rfl, by omega, rfl, hL0⟩
  case round =>
    obtain ⟨j, L, p', b', rp', a9, l9, c9, hj, rfl, rfl, hl9, hl, hL⟩ := hrel
    clear hL0
    by_cases hjn : j < n0
    · have hk : Hid (n0 - j = (n0 - (j + 1)) + 1) := by show _ = _; omega
      have h32 := Hid.intro (refused_is hL.out.rs)
      cases b' with
      | some f =>
        go_wp2_with (go_at_call 32; (with_reducible refine (h32.out).mono ?_); rintro e w2 ⟨rfl, hw2⟩; subst w2)
        all_goals first | omega | skip
        go_ret
        have hres : R = ([], p', some f) := by
          rw [← hL.out.res, hk.out, rdLoop]
          rfl
        rw [hres]
        exact ⟨_, rfl, hL.out.g, World.ownsRow_nil _ _ _ _, rp', hL.out.rs⟩
      | none =>
        have h142 := Hid.intro (term_is hL.out.rs)
        have hnx : Hid (∀ w2 rp2 v' w4, wr.grownBy w2 (some r) → RS w2 r a c zs (tmP zs p') (tmB zs p' none) rp2 mv last → w4.ownsRow w.heap.size 107 2 v' (l9 + 1) (rowT L ++ [.string (txS zs p'), .int .u32 (tmN zs p')]) → (w2.alloc (.cells #[.string (txS zs p'), .int .u32 (tmN zs p')] 107)).grownBy w4 (Value.slice a9 l9 c9).ownBlock → RL w r a c zs mv last R (n0 - (j + 1)) (L ++ [tmAt zs p']) (tmP zs p') (tmB zs p' none) rp2 v' w4) := fun w2 rp2 v' w4 h1 h2 h3 h4 => by
          have hh := hL.out
          rw [hk.out] at hh
          rw [hl.out] at h3 h4
          exact hh.next h1 h2 _ h3 h4
        have hmid : Hid (∀ w2, wr.grownBy w2 (some r) → (w2.alloc (.cells #[.string (txS zs p'), .int .u32 (tmN zs p')] 107)).ownsRow w.heap.size 107 2 (.slice a9 l9 c9) l9 (rowT L) ∧ w.heap.size ≤ (w2.alloc (.cells #[.string (txS zs p'), .int .u32 (tmN zs p')] 107)).heap.size) := fun w2 h1 => by
          have := hL.out.mid h1 (.cells #[.string (txS zs p'), .int .u32 (tmN zs p')] 107)
          rw [← hl.out] at this
          exact ⟨this, by have := hL.out.g.size; have := h1.size; simp; omega⟩
        have hll : Hid (l9 + 1 = (L ++ [tmAt zs p']).length) := by show _ = _; rw [List.length_append, hl.out]; rfl
        generalize txS zs p' = S at *
        generalize tmN zs p' = Nn at *
        clear hL hl hk
        go_wp2_with (first
          | (go_at_call 32; (with_reducible refine (h32.out).mono ?_); rintro e w2 ⟨rfl, hw2⟩; subst w2)
          | (go_at_call 142; (with_reducible refine (h142.out).mono ?_); rintro e w3 ⟨rfl, g3, rp3, hR3⟩; obtain ⟨hm1, hm2⟩ := hmid.out w3 g3; replace g3 := Hid.intro g3; replace hR3 := Hid.intro hR3; replace hm1 := Hid.intro hm1)
          | (at_builtin; go_must (refine wpList_app rfl (.tmp 28) (.tmp 31) 82 rfl w.heap.size 107 i1 _ 2 24 Tryz.underlying82 hi1 hy0 hy1 hy2 rfl (by decide) (.slice a9 l9 c9) l9 (rowT L) rfl hm1.out (.slice (some ⟨w3.heap.size, 0, none⟩) 1 1) 1 [.string S, .int .u32 Nn] rfl (.inr ⟨_, _, rfl, cells_new w3 #[.string S, .int .u32 Nn] 107⟩) rfl (by simp [Value.oneCell']) (by unfold maxLen; omega) (by omega) hm2 ?_; intro v' w4 ho4 hg4 hw4; have hn4 := Hid.intro (hnx.out w3 rp3 v' w4 g3.out hR3.out ho4 hg4); obtain ⟨a4, c4, rfl⟩ := own_slice ho4; clear ho4 hg4 hw4)))
        all_goals first | omega | skip
        go_roundw
        case rel => exact ⟨j + 1, _, _, _, rp3, a4, l9 + 1, c4, by omega, by go_num, rfl, by omega, hll, by rw [← hll.out]; exact hn4⟩
        case measure => simp [intOf]; omega
    · obtain rfl : j = n0 := by omega
      go_wp2_with fail
      all_goals first | omega | skip
      go_ret
      have hres : R = (L, p', b') := by
        rw [← hL.out.res, Nat.sub_self, rdLoop]
      rw [hres, hl.out]
      exact ⟨_, rfl, hL.out.g, hL.out.own, rp', hL.out.rs⟩
end
end Go.Proofs.YtmndccbeddaphaaGreatDoor
/- object's reader: a Lin. -/
namespace Go.Proofs.YtmndccbeddaphaaGreatDoor
open Go.ChangeShapes Go.WideShapes Go.ChangeAt Go.RowKit Go.Sort
set_option linter.unusedVariables false
set_option linter.unusedSimpArgs false
set_option maxRecDepth 100000
def liL (zs : List Int) (p : Nat) (b : Option (Int × Int)) : List Tm := (rdTerms zs p b).1
def liN (zs : List Int) (p : Nat) (b : Option (Int × Int)) : Int := rdV zs (rdTerms zs p b).2.1 4
def liP (zs : List Int) (p : Nat) (b : Option (Int × Int)) : Nat := rdP zs (rdTerms zs p b).2.1 4
def liB (zs : List Int) (p : Nat) (b : Option (Int × Int)) : Option (Int × Int) := rdB zs (rdTerms zs p b).2.1 4 (rdTerms zs p b).2.2
section
variable {w w' : World} {r : Nat} {a : Option Addr} {c : Nat} {zs : List Int} {p : Nat} {bad : Option (Int × Int)} {rp : Option Nat} {mv : Value} {last : List UInt8}
theorem RS.far (h : RS w r a c zs p bad rp mv last) {q : Nat} {xs : Array Value} {T : TypeId} {m : Nat × Nat} (hq : r < q) (hb : w.heap[q]? = some (.cells xs T m)) (hT : T ≠ 68) (hg : w.grownBy w' (some q)) : RS w' r a c zs p bad rp mv last := by
  refine ⟨(hg.block r (blk_lt h.blk) (fun e => by have := Option.some.inj e; omega)).trans h.blk, lies_grown h.lies (fun z hz => ⟨Nat.lt_trans (h.old z hz) (blk_lt h.blk), fun e => ?_⟩) hg, h.old, h.cap, h.few, h.at_, h.rf.grown (fun q' hq' e => ?_) hg⟩
  · have := h.old z hz; have e' := Option.some.inj e; omega
  · have e' := Option.some.inj e
    subst e'
    have h5 := h.rf
    cases hbb : bad with
    | none => rw [hbb] at h5; rw [hq'] at h5; cases h5
    | some f =>
      rw [hbb] at h5
      obtain ⟨q', h6, h7⟩ := h5
      rw [hq'] at h6
      cases h6
      rw [hb] at h7
      cases h7
      exact hT rfl
set_option maxHeartbeats 4000000 in
theorem lin_is (h : RS w r a c zs p bad rp mv last) : Calls Tryz.prog 116 #[.pointer (some ⟨r, 0, none⟩)] w fun e w' => ∃ v, e = .returned (.agg #[v, .int .u32 (liN zs p bad)]) ∧ w.grownBy w' (some r) ∧ w'.ownsRow w.heap.size 107 2 v (liL zs p bad).length (rowT (liL zs p bad)) ∧ ∃ rp', RS w' r a c zs (liP zs p bad) (liB zs p bad) rp' mv last := by
  have hlt := blk_lt h.blk
  have hA := Hid.intro (h.below (below_alloc w (.cells #[.slice none 0 0, .int .u32 0] 84)))
  have h141 := Hid.intro (readTerms_is hA.out)
  have h113 : Hid (∀ (w2 : World) rp2, RS w2 r a c zs (rdTerms zs p bad).2.1 (rdTerms zs p bad).2.2 rp2 mv last → Calls Tryz.prog 113 #[.pointer (some ⟨r, 0, none⟩), .int .i64 4] w2 fun e w' => e = .returned (.int .u32 (liN zs p bad)) ∧ w2.grownBy w' (some r) ∧ ∃ rp', RS w' r a c zs (liP zs p bad) (liB zs p bad) rp' mv last) := fun w2 rp2 hR => number_is hR 4 (.inr (.inr rfl))
  have hfin : Hid (∀ w2 w3 v y, (w.alloc (.cells #[.slice none 0 0, .int .u32 0] 84)).grownBy w2 (some r) → w2.ownsRow (w.alloc (.cells #[.slice none 0 0, .int .u32 0] 84)).heap.size 107 2 v (rdTerms zs p bad).1.length (rowT (rdTerms zs p bad).1) → w2.grownBy w3 (some r) → (∃ rp', RS w3 r a c zs (liP zs p bad) (liB zs p bad) rp' mv last) → w3.heap[w.heap.size]? = some (.cells #[.slice none 0 0, .int .u32 0] 84 (0, 0)) ∧ ((w3.setCell ⟨w.heap.size, 0, none⟩ v).setCell ⟨w.heap.size, 1, none⟩ y).heap[w.heap.size]? = some (.cells #[v, y] 84 (0, 0)) ∧ w.grownBy ((w3.setCell ⟨w.heap.size, 0, none⟩ v).setCell ⟨w.heap.size, 1, none⟩ y) (some r) ∧ ((w3.setCell ⟨w.heap.size, 0, none⟩ v).setCell ⟨w.heap.size, 1, none⟩ y).ownsRow w.heap.size 107 2 v (liL zs p bad).length (rowT (liL zs p bad)) ∧ ∃ rp', RS ((w3.setCell ⟨w.heap.size, 0, none⟩ v).setCell ⟨w.heap.size, 1, none⟩ y) r a c zs (liP zs p bad) (liB zs p bad) rp' mv last) := fun w2 w3 v y g1 ho g2 hR => by
    have hne : (w.heap.size : Nat) ≠ r := Nat.ne_of_gt hlt
    have g12 := grown_trans g1 g2
    have h0 := heap_alloc_new w (.cells #[.slice none 0 0, .int .u32 0] 84)
    have h3 := (g12.block _ (blk_lt h0) (fun e => hne (Option.some.inj e))).trans h0
    obtain ⟨s1, k1⟩ := row_set h3 0 v
    obtain ⟨s2, k2⟩ := row_set s1 1 y
    have k := grown_trans k1 k2
    have hsz : (w.alloc (.cells #[.slice none 0 0, .int .u32 0] 84)).heap.size = w.heap.size + 1 := by simp
    refine ⟨h3, s2, ?_, ?_, ?_⟩
    · exact grown_new (grown_trans (World.grownBy_alloc w (.cells #[.slice none 0 0, .int .u32 0] 84) (some r)) g12) k (fun g e => by have := Option.some.inj e; omega)
    · have h4 := own_low (own_low ho g2 (by rw [hsz]; omega)) k (by rw [hsz]; omega)
      exact own_weaken h4 (by rw [hsz]; omega)
    · obtain ⟨rp', hR⟩ := hR
      exact ⟨rp', hR.far hlt h3 (by decide) k⟩
  generalize liN zs p bad = n0 at *
  clear h hA
  go_enter Tryz.func116, Tryz.ntmps116
  go_wp2_with (first
    | (go_at_call 141; (with_reducible refine (h141.out).mono ?_); rintro e w2 ⟨v2, rfl, g1, ho2, rp2, hR2⟩; obtain ⟨a2, c2, rfl⟩ := own_slice ho2; replace g1 := Hid.intro g1; replace hR2 := Hid.intro hR2; replace ho2 := Hid.intro ho2)
    | (go_at_call 113; (with_reducible refine (h113.out _ rp2 hR2.out).mono ?_); rintro e w3 ⟨rfl, g2, hR3⟩; obtain ⟨k1, k2, k3, k4, k5⟩ := hfin.out w2 w3 _ (.int .u32 n0) g1.out ho2.out g2 hR3; obtain ⟨d0, d1⟩ := two_readR k1; have df := fun j => frozen_of_row w3 w.heap.size j _ 84 k1; replace k3 := Hid.intro k3; replace k4 := Hid.intro k4; replace k5 := Hid.intro k5; replace k2 := Hid.intro k2; clear k1 g2 hR3))
  all_goals first | omega | skip
  obtain ⟨z0, z1⟩ := two_readR k2.out
  refine bodyPost_ret (by simp [results, Tryz.results116, go_sem, z0, z1]; try rfl) rfl ?_
  exact ⟨_, rfl, k3.out, k4.out, k5.out⟩
end
end Go.Proofs.YtmndccbeddaphaaGreatDoor
namespace Go.Proofs.YtmndccbeddaphaaGreatDoor.O
open Go.ChangeShapes Go.WideShapes Go.ChangeAt Go.RowKit
set_option linter.unusedVariables false
set_option maxRecDepth 100000
theorem same_eq (a1 a2 : Option Addr) (c1 c2 : Nat) (xs : List Int) (w : World) (h1 : Lies w a1 xs) (h2 : Lies w a2 xs) (hm : xs.length ≤ maxLen) :
    Calls Tryz.prog 15 #[.slice a1 xs.length c1, .slice a2 xs.length c2] w fun e w' => e = .returned (.bool true) ∧ ∃ n, w' = w.drewN n := by
  unfold maxLen at hm
  rcases h1.2 with rfl | ⟨b1, o1, rfl, hc1⟩
  · go_enter Tryz.func15, Tryz.ntmps15
    go_wp2
    go_loop [5] (fun i => i = .int .i64 0) (fun _ => 0)
    case atStart => rfl
    case round =>
      subst hrel
      go_wp2
      go_ret
      exact ⟨rfl, 0, rfl⟩
  · rcases h2.2 with rfl | ⟨b2, o2, rfl, hc2⟩
    · go_enter Tryz.func15, Tryz.ntmps15
      go_wp2
      go_loop [5] (fun i => i = .int .i64 0) (fun _ => 0)
      case atStart => rfl
      case round =>
        subst hrel
        go_wp2
        go_ret
        exact ⟨rfl, 0, rfl⟩
    · clear h1 h2
      go_enter Tryz.func15, Tryz.ntmps15
      go_wp2
      go_loopw [5] (fun i wr => ∃ k n : Nat, k ≤ xs.length ∧ i = .int .i64 k ∧ wr = w.drewN n) (fun i _ => xs.length - (intOf i).toNat)
      case atStart => exact ⟨0, 0, Nat.zero_le _, rfl, rfl⟩
      case round =>
        obtain ⟨k, n, hk, rfl, rfl⟩ := hrel
        by_cases hlt : k < xs.length
        · have q1 := hc1 k hlt
          have q2 := hc2 k hlt
          go_wp2
          go_quiet (fail)
          go_wp2
          go_roundw
          case rel => exact ⟨k + 1, n + nq, by omega, by go_num, by simp⟩
          case measure => simp [intOf]; omega
        · go_wp2
          go_ret
          exact ⟨rfl, n, rfl⟩
def cellsOf (zs : List Int) : List Value := zs.map (Value.int .u8)
theorem cellsOf_length (zs : List Int) : (cellsOf zs).length = zs.length := by simp [cellsOf]
theorem cellsOf_get (zs : List Int) (i : Nat) (h : i < zs.length) : (cellsOf zs)[i]? = some (.int .u8 (zs.getD i 0)) := by
  simp [cellsOf, List.getElem?_eq_getElem h]
def RowIs (w : World) (g : Nat) (zs : List Int) : Prop := w.heap[g]? = some (.cells (cellsOf zs).toArray 5 (0, 0))
theorem RowIs.cell {w : World} {g : Nat} {zs : List Int} (h : RowIs w g zs) (i : Nat) (hi : i < zs.length) : w.cell? ⟨g, i, none⟩ = some (.int .u8 (zs.getD i 0)) := by
  rw [cell_of_row w g i _ 5 (0, 0) h]
  simpa using cellsOf_get zs i hi
theorem RowIs.lt {w : World} {g : Nat} {zs : List Int} (h : RowIs w g zs) : g < w.heap.size := (Array.getElem?_eq_some_iff.1 h).1
theorem RowIs.below {w w' : World} {g B : Nat} {zs : List Int} (h : RowIs w g zs) (hb : Below B w w') (hg : g < B) : RowIs w' g zs := by
  unfold RowIs at h ⊢
  rw [hb.block g hg, h]
theorem Tryz.info5 : (Tryz.prog.info? 5).map (fun i => (i.zero, i.size, i.bytes)) = some (some (.int .u8 0), 1, 1) := by kernel_rfl
theorem RowIs.frozen {w : World} {g : Nat} {zs : List Int} (h : RowIs w g zs) (i : Nat) : w.frozen? ⟨g, i, none⟩ = false := frozen_of_row w g i _ 5 h
theorem RowIs.set {w : World} {g : Nat} {zs : List Int} (h : RowIs w g zs) (i : Nat) (z : Int) : RowIs (w.setCell ⟨g, i, none⟩ (.int .u8 z)) g (zs.set i z) := by
  have := heap_setCell_same w g i _ 5 (.int .u8 z) h
  unfold RowIs
  rw [this]
  simp [cellsOf, List.map_set]
theorem made_row {w : World} {base g n : Nat} (h : w.ownsRow base 5 1 (.slice (some ⟨g, 0, none⟩) n n) n (madeCells (Value.int .u8 0).cells (n * 1)).toList) : RowIs w g (List.replicate n 0) := by
  rcases h.2 with ⟨h', _⟩ | ⟨g', cap', cur, h', _, hg, _, _, hs, ht⟩
  · simp at h'
  · simp only [Value.slice.injEq, Option.some.injEq, Addr.mk.injEq, and_true, true_and] at h'
    obtain ⟨rfl, rfl⟩ := h'
    unfold RowIs
    rw [hg]
    have e : cur.toList = cellsOf (List.replicate n 0) := by
      rw [List.take_of_length_le (by simpa using Nat.le_of_eq hs)] at ht
      rw [ht]
      have : (Value.int IntKind.u8 0).cells = #[.int .u8 0] := rfl
      rw [this, toList_madeCells_one]
      simp [cellsOf]
    rw [← e]
def fillRow (zs : List Int) (m : Int) (N k : Nat) : List Int := zs ++ List.replicate (k - zs.length) m ++ List.replicate (N - k) 0
theorem fillRow_length (zs : List Int) (m : Int) (N k : Nat) (h : zs.length ≤ k) (hk : k ≤ N) : (fillRow zs m N k).length = N := by simp [fillRow]; omega
theorem fillRow_set (zs : List Int) (m : Int) (N k : Nat) (h : zs.length ≤ k) (hk : k < N) : (fillRow zs m N k).set k m = fillRow zs m N (k + 1) := by
  unfold fillRow
  rw [List.set_append_right _ _ (by simp; omega)]
  have e1 : k - (zs ++ List.replicate (k - zs.length) m).length = 0 := by simp; omega
  obtain ⟨j, hj⟩ : ∃ j, N - k = j + 1 := ⟨N - k - 1, by omega⟩
  have hj' : N - (k + 1) = j := by omega
  rw [e1, hj, hj', List.replicate_succ, List.set_cons_zero, show k + 1 - zs.length = (k - zs.length) + 1 by omega, List.replicate_succ']
  simp
theorem lies_src {w : World} {a : Option Addr} {zs : List Int} (hl : Lies w a zs) {w1 : World} (hb : Below w.heap.size w w1) (h0 : 0 < (cellsOf zs).length) :
    ∃ ad, a = some ad ∧ ∀ j v, (cellsOf zs)[j]? = some v → w1.cell? (ad.add j) = some v := by
  rcases hl.2 with rfl | ⟨b, off, rfl, hc⟩
  · simp [cellsOf] at h0
  · refine ⟨_, rfl, fun j v hj => ?_⟩
    have hlt : j < zs.length := by
      rcases Nat.lt_or_ge j zs.length with h | h
      · exact h
      · rw [List.getElem?_eq_none (by simpa [cellsOf] using h)] at hj
        cases hj
    have hadd : (⟨b, off, none⟩ : Addr).add j = ⟨b, off + j, none⟩ := by unfold Addr.add; split <;> simp_all
    rw [cellsOf_get zs j hlt] at hj
    rw [hadd, hb.cell (World.block_lt_of_cell? w _ (hc j hlt)), hc j hlt, hj]
theorem cellsOf_one (zs : List Int) : ∀ v ∈ cellsOf zs, v.oneCell' = true := by
  intro v hv
  simp [cellsOf] at hv
  obtain ⟨z, _, rfl⟩ := hv
  rfl
theorem splice_fill (zs : List Int) (m : Int) (N : Nat) (h : zs.length ≤ N) : splice (cellsOf (List.replicate N 0)) 0 (cellsOf zs) = cellsOf (fillRow zs m N zs.length) := by
  simp [splice, cellsOf, fillRow]
theorem roomy_any (a : Option Addr) (cap : Nat) (zs : List Int) (m : Int) (w : World) (hl : Lies w a zs) (hm : zs.length ≤ 140737488355328) :
    Calls Tryz.prog 16 #[.slice a zs.length cap, .int .u8 m] w fun e w' => e = .returned (.slice (some ⟨w.heap.size, 0, none⟩) (zs.length + 80) (zs.length + 80)) ∧ RowIs w' w.heap.size (zs ++ List.replicate 80 m) ∧ Below w.heap.size w w' := by
  obtain ⟨i0, hi, hz0, hz1, hz2⟩ := info_parts Tryz.info5
  go_enter Tryz.func16, Tryz.ntmps16
  go_wp2_with (first
    | (at_make; go_must (refine wpList_make_full _ rfl (.tmp 9) (.tmp 9) 22 rfl w.heap.size 5 i0 (.int .u8 0) 1 Tryz.underlying22 hi hz0 hz1 .i64 .i64 _ _ (zs.length + 80) rfl rfl (by omega) (by omega) (by rw [hz2]; omega) (by unfold maxLen; omega) (Nat.le_refl _) ?_; intro w1 hown1 hgrow1; have hr1 := made_row hown1; have hb1 : Below w.heap.size w w1 := (Below.refl _ _).grown hgrow1 (Nat.le_refl _) (fun k hk => by cases hk); clear hown1 hgrow1))
    | (refine wpList_copy_splice rfl (.tmp 11) (.tmp 12) 22 22 rfl 5 Tryz.underlying22 (by kernel_rfl) _ _ _ _ _ _ rfl rfl w.heap.size 0 (cellsOf (List.replicate (zs.length + 80) 0)) 5 hr1 (cellsOf zs) (by rw [cellsOf_length]; exact (Nat.min_eq_left (by omega)).symm) (fun h0 => ⟨rfl, lies_src hl hb1 h0⟩) (by simp [cellsOf_length]) (cellsOf_one zs) w.heap.size w hb1 (Nat.le_refl _) ?_; intro w2 hg2 hb2; rw [splice_fill zs m _ (by omega)] at hg2))
  go_loopw [6] (fun i wr => ∃ k : Nat, zs.length ≤ k ∧ k ≤ zs.length + 80 ∧ i = .int .i64 k ∧ RowIs wr w.heap.size (fillRow zs m (zs.length + 80) k) ∧ Below w.heap.size w wr) (fun i _ => zs.length + 80 - (intOf i).toNat)
  case atStart => exact ⟨zs.length, Nat.le_refl _, by omega, rfl, hg2.out, hb2⟩
  case round =>
    obtain ⟨k, hk0, hk, rfl, hrow, hbr⟩ := hrel
    by_cases hlt : k < zs.length + 80
    · have q1 := hrow.cell k (by rw [fillRow_length _ _ _ _ hk0 hk]; exact hlt)
      have q2 := hrow.frozen k
      have q3 : RowIs (wr.setCell ⟨w.heap.size, k, none⟩ (.int .u8 m)) w.heap.size (fillRow zs m (zs.length + 80) (k + 1)) := by
        rw [← fillRow_set zs m _ k hk0 hlt]; exact hrow.set k m
      have q4 : Below w.heap.size w (wr.setCell ⟨w.heap.size, k, none⟩ (.int .u8 m)) := hbr.setCell (Nat.le_refl _) _
      clear hrow
      go_wp2
      go_roundw
      case rel => exact ⟨k + 1, by omega, by omega, by go_num, q3, q4⟩
      case measure => simp [intOf]; omega
    · have e : k = zs.length + 80 := by omega
      subst e
      go_wp2
      go_ret
      exact ⟨rfl, by simpa [fillRow] using hrow, hbr⟩
theorem RowIs.lies {w : World} {g : Nat} {zs ys : List Int} (h : RowIs w g (zs ++ ys)) (hz : AreBytes zs) : Lies w (some ⟨g, 0, none⟩) zs := by
  refine ⟨hz, .inr ⟨g, 0, rfl, fun i hi => ?_⟩⟩
  have := h.cell i (by simp; omega)
  rw [Nat.zero_add, this]
  simp [List.getElem?_append_left hi]
theorem RowIs.drewN {w : World} {g : Nat} {zs : List Int} (h : RowIs w g zs) (n : Nat) : RowIs (w.drewN n) g zs := by
  have e : (w.drewN n).heap = w.heap := by simp
  unfold RowIs
  rw [e]
  exact h
theorem Lies.drewN {w : World} {a : Option Addr} {zs : List Int} (h : Lies w a zs) (n : Nat) : Lies (w.drewN n) a zs := by
  refine ⟨h.1, ?_⟩
  rcases h.2 with h | ⟨b, off, ha, hc⟩
  · exact .inl h
  · exact .inr ⟨b, off, ha, fun i hi => by rw [← hc i hi]; simp⟩
theorem Lies.below {w w' : World} {a : Option Addr} {zs : List Int} (h : Lies w a zs) (hb : Below w.heap.size w w') : Lies w' a zs := by
  refine ⟨h.1, ?_⟩
  rcases h.2 with h | ⟨b, off, ha, hc⟩
  · exact .inl h
  · exact .inr ⟨b, off, ha, fun i hi => by rw [hb.cell (World.block_lt_of_cell? w _ (hc i hi))]; exact hc i hi⟩
theorem getD_tail (zs : List Int) (m : Int) (N k : Nat) (h1 : zs.length ≤ k) (h2 : k < zs.length + N) : (zs ++ List.replicate N m).getD k 0 = m := by
  rw [List.getD_eq_getElem?_getD, List.getElem?_append_right h1, List.getElem?_replicate_of_lt (by omega)]
  rfl
theorem intact_any (a : Option Addr) (g cap : Nat) (zs : List Int) (m : Int) (w : World) (hl : Lies w a zs) (hr : RowIs w g (zs ++ List.replicate 80 m)) (hm : zs.length ≤ 140737488355328) :
    Calls Tryz.prog 19 #[.slice (some ⟨g, 0, none⟩) (zs.length + 80) (zs.length + 80), .slice a zs.length cap, .int .u8 m] w fun e w' => e = .returned (.bool true) ∧ ∃ n, w' = w.drewN n := by
  have hs := fun c => same_eq (some ⟨g, 0, none⟩) a c cap zs w (hr.lies hl.1) hl (by unfold maxLen; omega)
  have hcell : ∀ n k, zs.length ≤ k → k < zs.length + 80 → (w.drewN n).cell? ⟨g, k, none⟩ = some (.int .u8 m) := by
    intro n k h1 h2
    rw [(hr.drewN n).cell k (by rw [List.length_append, List.length_replicate]; exact h2), getD_tail zs m 80 k h1 h2]
  clear hl hr
  go_enter Tryz.func19, Tryz.ntmps19
  go_wp2_with (first | (go_at_call 15; refine (hs _).mono ?_; rintro e w' ⟨rfl, n0, rfl⟩))
  go_loop [7] (fun i => ∃ k : Nat, zs.length ≤ k ∧ k ≤ zs.length + 80 ∧ i = .int .i64 k) (fun i => zs.length + 80 - (intOf i).toNat)
  case atStart => exact ⟨zs.length, Nat.le_refl _, by omega, rfl⟩
  case round =>
    obtain ⟨k, hk0, hk, rfl⟩ := hrel
    by_cases hlt : k < zs.length + 80
    · have q := hcell n0 k hk0 hlt
      clear hcell
      go_wp2
      go_round
      case rel => exact ⟨k + 1, by omega, by omega, by go_num⟩
      case measure => simp [intOf]; omega
    · go_wp2
      go_ret
      exact ⟨rfl, n0, rfl⟩
end Go.Proofs.YtmndccbeddaphaaGreatDoor.O
