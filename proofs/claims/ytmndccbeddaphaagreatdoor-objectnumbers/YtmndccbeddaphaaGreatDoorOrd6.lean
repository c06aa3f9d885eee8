/- object's reader: a Lin. -/
import Derived.Test.YtmndccbeddaphaaGreatDoorOrd1
import Derived.Test.YtmndccbeddaphaaGreatDoorCp
/- object's reader: text. -/
namespace Go.Proofs.YtmndccbeddaphaaGreatDoor
open Go.ChangeShapes Go.WideShapes Go.ChangeAt Go.RowKit Go.Sort
set_option linter.unusedVariables false
set_option linter.unusedSimpArgs false
set_option maxRecDepth 100000

/-- the text at p, where text stands then, what is refused -/
def txS (zs : List Int) (p : Nat) : ByteArray := O.getTS zs (p : Int) 65535
def txP (zs : List Int) (p : Nat) : Nat := if O.getTE zs (p : Int) 65535 = 0 then p + 2 + (O.getN zs (p : Int) 2).toNat else p
def txB (zs : List Int) (p : Nat) (bad : Option (Int × Int)) : Option (Int × Int) := if O.getTE zs (p : Int) 65535 = 0 then bad else firstR bad (zs.length, O.getTE zs (p : Int) 65535)

theorem getN_bd {zs : List Int} (hz : O.AreBytes zs) (p : Int) : 0 ≤ O.getN zs p 2 ∧ O.getN zs p 2 ≤ 65535 := by
  unfold O.getN
  split
  · have hb := O.leN_bd ((zs.drop p.toNat).take 2) (O.areBytes_take _ (O.areBytes_drop _ hz _) 2)
    have hl : ((zs.drop p.toNat).take 2).length ≤ 2 := by simp; omega
    have hp : (256 : Int) ^ ((zs.drop p.toNat).take 2).length ≤ 65536 := by
      have : ((zs.drop p.toNat).take 2).length = 0 ∨ ((zs.drop p.toNat).take 2).length = 1 ∨ ((zs.drop p.toNat).take 2).length = 2 := by omega
      rcases this with h | h | h <;> rw [h] <;> decide
    show 0 ≤ O.leN ((zs.drop p.toNat).take 2) ∧ O.leN ((zs.drop p.toNat).take 2) ≤ 65535
    omega
  · omega

section
variable {w w' : World} {r : Nat} {a : Option Addr} {c : Nat} {zs : List Int} {p : Nat} {bad : Option (Int × Int)} {rp : Option Nat} {mv : Value} {last : List UInt8}

set_option maxHeartbeats 4000000 in
theorem text_is (h : RS w r a c zs p bad rp mv last) : Calls Tryz.prog 115 #[.pointer (some ⟨r, 0, none⟩)] w fun e w' => e = .returned (.string (txS zs p)) ∧ w.grownBy w' (some r) ∧ ∃ rp', RS w' r a c zs (txP zs p) (txB zs p bad) rp' mv last := by
  have hat : p ≤ zs.length + 1 := by rcases h.at_ with h1 | ⟨_, h1⟩ <;> omega
  have hfw := h.few
  have hN := getN_bd h.lies.1 (p : Int)
  have hget := Hid.intro (fun n => O.getText_any a c zs (p : Int) 65535 (w.drewN n) (lies_grown h.lies (fun x hx => ⟨Nat.lt_trans (h.old x hx) (blk_lt h.blk), by simp⟩) (grown_of_below (below_drewN (Below.refl w.heap.size w) n))) (by unfold maxLen; omega) h.cap (by omega))
  obtain ⟨n0, hn0⟩ : ∃ n0, n0 = zs.length := ⟨_, rfl⟩
  have hblk := h.blk
  rw [← hn0] at hblk hget hat hfw
  obtain ⟨c0, c1, _, _, _⟩ := five_read hblk
  by_cases hq : O.getTE zs (p : Int) 65535 = 0
  · have e1 : O.getTo zs (p : Int) 65535 = ((txP zs p : Nat) : Int) := by unfold O.getTo txP; rw [if_pos hq, if_pos hq]; omega
    have hle : txP zs p ≤ zs.length := by
      unfold txP
      rw [if_pos hq]
      unfold O.getTE at hq
      split at hq
      · split at hq
        · cases hq
        · split at hq
          · cases hq
          · omega
      · contradiction
    rw [hq, e1] at hget
    have f1 := fun (n : Nat) => frozen_of_row (w.drewN n) r 1 _ 71 hblk
    have hfin : Hid (∀ n, w.grownBy ((w.drewN n).setCell ⟨r, 1, none⟩ (.int .i64 ((txP zs p : Nat) : Int))) (some r) ∧ ∃ rp', RS ((w.drewN n).setCell ⟨r, 1, none⟩ (.int .i64 ((txP zs p : Nat) : Int))) r a c zs (txP zs p) (txB zs p bad) rp' mv last) := fun n => by
      obtain ⟨s1, s2⟩ := row_set (show (w.drewN n).heap[r]? = _ from h.blk) 1 (.int .i64 ((txP zs p : Nat) : Int))
      have hg : w.grownBy ((w.drewN n).setCell ⟨r, 1, none⟩ (.int .i64 ((txP zs p : Nat) : Int))) (some r) := ⟨s2.os, s2.tape, s2.output, s2.size, s2.block⟩
      refine ⟨hg, rp, ?_⟩
      unfold txB
      rw [if_pos hq]
      exact h.put hg (.inl hle) s1 (h.rf.grown h.rne hg)
    have hS : Hid (O.getTS zs (p : Int) 65535 = txS zs p) := rfl
    rw [hS.out] at hget
    generalize txS zs p = S at *
    generalize txP zs p = P at *
    clear h hblk e1 hn0 hq hN hle hS
    go_enter Tryz.func115, Tryz.ntmps115
    go_wp2
    all_goals first | omega | skip
    go_quiet ((go_at_call 140; with_reducible exact Calls.quiet_of_same (hget.out _)))
    go_wp2
    all_goals first | omega | skip
    go_ret
    exact ⟨rfl, hfin.out _⟩
  · obtain ⟨te, hte⟩ : ∃ te, te = O.getTE zs (p : Int) 65535 := ⟨_, rfl⟩
    have hS : txS zs p = ByteArray.empty := by unfold txS O.getTS; rw [if_neg hq]
    have hS2 : O.getTS zs (p : Int) 65535 = ByteArray.empty := hS
    have hrf : Hid (∀ n, Calls Tryz.prog 82 #[.pointer (some ⟨r, 0, none⟩), .int .i64 (n0 : Int), .int .i64 te] (w.drewN n) fun e w' => e = .returned (.tuple #[]) ∧ w.grownBy w' (some r) ∧ ∃ rp', RS w' r a c zs (txP zs p) (txB zs p bad) rp' mv last) := fun n => by
      refine (refuse_is (h.below (below_drewN (Below.refl w.heap.size w) n)) (n0 : Int) te).mono ?_
      rintro e w' ⟨rfl, hg, rp', hR⟩
      refine ⟨rfl, ⟨hg.os, hg.tape, hg.output, hg.size, hg.block⟩, rp', ?_⟩
      unfold txP txB
      rw [if_neg hq, if_neg hq, ← hn0, ← hte]
      exact hR
    rw [hS]
    rw [← hte, hS2] at hget
    rw [← hte] at hq
    have hq2 : (te == 0) = false := by simpa using hq
    generalize O.getTo zs (p : Int) 65535 = tt at *
    clear h hblk hn0 hte hN hS hS2
    go_enter Tryz.func115, Tryz.ntmps115
    go_wp2
    all_goals first | omega | skip
    go_quiet ((go_at_call 140; with_reducible exact Calls.quiet_of_same (hget.out _)))
    go_wp2_with (go_at_call 82; (with_reducible refine (hrf.out _).mono ?_); rintro e w2 ⟨rfl, hg2, hR2⟩; replace hg2 := Hid.intro hg2; replace hR2 := Hid.intro hR2)
    all_goals first | omega | skip
    go_ret
    exact ⟨rfl, hg2.out, hR2.out⟩
end
end Go.Proofs.YtmndccbeddaphaaGreatDoor
/- object's reader: term. -/
namespace Go.Proofs.YtmndccbeddaphaaGreatDoor
open Go.ChangeShapes Go.WideShapes Go.ChangeAt Go.RowKit Go.Sort
set_option linter.unusedVariables false
set_option linter.unusedSimpArgs false
set_option maxRecDepth 100000

def tmP (zs : List Int) (p : Nat) : Nat := rdP zs (txP zs p) 4
def tmB (zs : List Int) (p : Nat) (bad : Option (Int × Int)) : Option (Int × Int) := rdB zs (txP zs p) 4 (txB zs p bad)
def tmN (zs : List Int) (p : Nat) : Int := rdV zs (txP zs p) 4
theorem two_readR {T : TypeId} {w : World} {g : Nat} {v0 v1 : Value} (h : w.heap[g]? = some (.cells #[v0, v1] T (0, 0))) : w.cell? ⟨g, 0, none⟩ = some v0 ∧ w.cell? ⟨g, 1, none⟩ = some v1 := ⟨(cell_blockT h 0).trans rfl, (cell_blockT h 1).trans rfl⟩

section
variable {w w' : World} {r : Nat} {a : Option Addr} {c : Nat} {zs : List Int} {p : Nat} {bad : Option (Int × Int)} {rp : Option Nat} {mv : Value} {last : List UInt8}

set_option maxHeartbeats 4000000 in
theorem term_is (h : RS w r a c zs p bad rp mv last) : Calls Tryz.prog 142 #[.pointer (some ⟨r, 0, none⟩)] w fun e w' => e = .returned (.agg #[.string (txS zs p), .int .u32 (tmN zs p)]) ∧ w.grownBy w' (some r) ∧ ∃ rp', RS w' r a c zs (tmP zs p) (tmB zs p bad) rp' mv last := by
  have hlt := blk_lt h.blk
  have hA := Hid.intro (h.below (below_alloc w (.cells #[.string ⟨#[]⟩, .int .u32 0] 107)))
  have h115 := Hid.intro (text_is hA.out)
  have h113 : Hid (∀ (w2 : World) rp2, RS w2 r a c zs (txP zs p) (txB zs p bad) rp2 mv last → Calls Tryz.prog 113 #[.pointer (some ⟨r, 0, none⟩), .int .i64 4] w2 fun e w' => e = .returned (.int .u32 (tmN zs p)) ∧ w2.grownBy w' (some r) ∧ ∃ rp', RS w' r a c zs (tmP zs p) (tmB zs p bad) rp' mv last) := fun w2 rp2 hR => number_is hR 4 (.inr (.inr rfl))
  have hfin : Hid (∀ w2 w3 x y, (w.alloc (.cells #[.string ⟨#[]⟩, .int .u32 0] 107)).grownBy w2 (some r) → w2.grownBy w3 (some r) → (∃ rp', RS w3 r a c zs (tmP zs p) (tmB zs p bad) rp' mv last) → w3.heap[w.heap.size]? = some (.cells #[.string ⟨#[]⟩, .int .u32 0] 107 (0, 0)) ∧ ((w3.setCell ⟨w.heap.size, 0, none⟩ x).setCell ⟨w.heap.size, 1, none⟩ y).heap[w.heap.size]? = some (.cells #[x, y] 107 (0, 0)) ∧ w.grownBy ((w3.setCell ⟨w.heap.size, 0, none⟩ x).setCell ⟨w.heap.size, 1, none⟩ y) (some r) ∧ ∃ rp', RS ((w3.setCell ⟨w.heap.size, 0, none⟩ x).setCell ⟨w.heap.size, 1, none⟩ y) r a c zs (tmP zs p) (tmB zs p bad) rp' mv last) := fun w2 w3 x y g1 g2 hR => by
    have hne : (w.heap.size : Nat) ≠ r := Nat.ne_of_gt hlt
    have g12 := grown_trans g1 g2
    have h0 := heap_alloc_new w (.cells #[.string ⟨#[]⟩, .int .u32 0] 107)
    have h3 := (g12.block _ (blk_lt h0) (fun e => hne (Option.some.inj e))).trans h0
    obtain ⟨s1, k1⟩ := row_set h3 0 x
    obtain ⟨s2, k2⟩ := row_set s1 1 y
    have k := grown_trans k1 k2
    refine ⟨h3, s2, ?_, ?_⟩
    · have hg := grown_trans (World.grownBy_alloc w (.cells #[.string ⟨#[]⟩, .int .u32 0] 107) (some r)) g12
      exact ⟨by rw [k.os, hg.os], by rw [k.tape, hg.tape], by rw [k.output, hg.output], Nat.le_trans hg.size k.size, fun j hj hjr => by rw [k.block j (Nat.lt_of_lt_of_le hj hg.size) (fun e => by cases e; exact absurd hj (Nat.lt_irrefl _)), hg.block j hj hjr]⟩
    · obtain ⟨rp', hR⟩ := hR
      refine ⟨rp', ⟨(k.block r (blk_lt hR.blk) (fun e => hne (Option.some.inj e).symm)).trans hR.blk, lies_grown hR.lies (fun z hz => ⟨Nat.lt_trans (hR.old z hz) (blk_lt hR.blk), fun e => ?_⟩) k, hR.old, hR.cap, hR.few, hR.at_, hR.rf.grown (fun q hq e => ?_) k⟩⟩
      · have := hR.old z hz; have e' := Option.some.inj e; omega
      · have e' := Option.some.inj e
        subst e'
        have h5 := hR.rf
        cases hb : tmB zs p bad with
        | none => rw [hb] at h5; rw [hq] at h5; cases h5
        | some f =>
          rw [hb] at h5
          obtain ⟨q', h6, h7⟩ := h5
          rw [hq] at h6
          cases h6
          rw [h3] at h7
          cases h7
  obtain ⟨n0, hn0⟩ : ∃ n0, n0 = tmN zs p := ⟨_, rfl⟩
  rw [← hn0] at h113 ⊢
  generalize txS zs p = S at *
  clear h hA hn0
  go_enter Tryz.func142, Tryz.ntmps142
  go_wp2_with (first
    | (go_at_call 115; (with_reducible refine (h115.out).mono ?_); rintro e w2 ⟨rfl, g1, rp2, hR2⟩; replace g1 := Hid.intro g1; replace hR2 := Hid.intro hR2)
    | (go_at_call 113; (with_reducible refine (h113.out _ rp2 hR2.out).mono ?_); rintro e w3 ⟨rfl, g2, hR3⟩; obtain ⟨k1, k2, k3, k4⟩ := hfin.out w2 w3 (.string S) (.int .u32 n0) g1.out g2 hR3; obtain ⟨d0, d1⟩ := two_readR k1; have df := fun j => frozen_of_row w3 w.heap.size j _ 107 k1; replace k3 := Hid.intro k3; replace k4 := Hid.intro k4; replace k2 := Hid.intro k2; clear k1 g2 hR3))
  all_goals first | omega | skip
  obtain ⟨z0, z1⟩ := two_readR k2.out
  refine bodyPost_ret (by simp [results, Tryz.results142, go_sem, z0, z1]; try rfl) rfl ?_
  exact ⟨rfl, k3.out, k4.out⟩
end
end Go.Proofs.YtmndccbeddaphaaGreatDoor
/- object's reader: a list of terms, a Lin. -/
namespace Go.Proofs.YtmndccbeddaphaaGreatDoor
open Go.ChangeShapes Go.WideShapes Go.ChangeAt Go.RowKit Go.Sort
set_option linter.unusedVariables false
set_option linter.unusedSimpArgs false
set_option maxRecDepth 100000

def txL (zs : List Int) (p : Nat) : List UInt8 := (txS zs p).data.toList
theorem str_txL (zs : List Int) (p : Nat) : str (txL zs p) = txS zs p := by unfold txL str; simp
def tmAt (zs : List Int) (p : Nat) : Tm := ⟨txL zs p, tmN zs p⟩
/-- k terms more -/
def rdLoop (zs : List Int) : Nat → List Tm → Nat → Option (Int × Int) → List Tm × Nat × Option (Int × Int)
  | 0, acc, p, b => (acc, p, b)
  | k + 1, acc, p, b => if b.isSome then ([], p, b) else rdLoop zs k (acc ++ [tmAt zs p]) (tmP zs p) (tmB zs p b)
def rdTerms (zs : List Int) (p : Nat) (b : Option (Int × Int)) : List Tm × Nat × Option (Int × Int) := rdLoop zs (rdV zs p 2).toNat [] (rdP zs p 2) (rdB zs p 2 b)

theorem rdV_bd {zs : List Int} (hz : O.AreBytes zs) (p : Nat) : 0 ≤ rdV zs p 2 ∧ rdV zs p 2 ≤ 65535 := by
  unfold rdV
  split
  · have hb := O.leN_bd ((zs.drop p).take 2) (O.areBytes_take _ (O.areBytes_drop _ hz _) 2)
    have hl : ((zs.drop p).take 2).length = 2 := by simp; omega
    rw [hl] at hb
    omega
  · omega

section
variable {w w' : World} {r : Nat} {a : Option Addr} {c : Nat} {zs : List Int} {p : Nat} {bad : Option (Int × Int)} {rp : Option Nat} {mv : Value} {last : List UInt8}

/-- a row of its own has grown -/
theorem RS.off (h : RS w r a c zs p bad rp mv last) {lo : Nat} {T : TypeId} {sz n : Nat} {v : Value} {xs : List Value} (hr : w.ownsRow lo T sz v n xs) (hlo : r < lo) (hT : T ≠ 68) (hg : w.grownBy w' v.ownBlock) : RS w' r a c zs p bad rp mv last := by
  have hne : ∀ g, v.ownBlock = some g → lo ≤ g := fun g hgg => (hr.lt g hgg).1
  refine ⟨(hg.block r (blk_lt h.blk) (fun e => ?_)).trans h.blk, lies_grown h.lies (fun x hx => ⟨Nat.lt_trans (h.old x hx) (blk_lt h.blk), fun e => ?_⟩) hg, h.old, h.cap, h.few, h.at_, h.rf.grown (fun q hq e => ?_) hg⟩
  · have := hne r e.symm; omega
  · have := hne _ e; have := h.old x hx; omega
  · cases hb : bad with
    | none => have h5 := h.rf; rw [hb, hq] at h5; cases h5
    | some f =>
      have h5 := h.rf
      rw [hb] at h5
      obtain ⟨q', h6, h7⟩ := h5
      rw [hq] at h6
      cases h6
      rcases hr.2 with ⟨rfl, _⟩ | ⟨g', cap, cur, rfl, _, hgg, _⟩
      · simp [Value.ownBlock] at e
      · simp [Value.ownBlock] at e
        subst e
        rw [hgg] at h7
        cases h7
        exact hT rfl
theorem grown_new {w3 w4 : World} {k k2 : Option Nat} (h1 : w.grownBy w3 k) (h2 : w3.grownBy w4 k2) (hk : ∀ g, k2 = some g → w.heap.size ≤ g) : w.grownBy w4 k :=
  ⟨by rw [h2.os, h1.os], by rw [h2.tape, h1.tape], by rw [h2.output, h1.output], Nat.le_trans h1.size h2.size, fun j hj hjk => by rw [h2.block j (Nat.lt_of_lt_of_le hj h1.size) (fun e => by have := hk j e.symm; omega), h1.block j hj hjk]⟩

/-- while a list is read -/
structure RL (w : World) (r : Nat) (a : Option Addr) (c : Nat) (zs : List Int) (mv : Value) (last : List UInt8) (R : List Tm × Nat × Option (Int × Int)) (k : Nat) (L : List Tm) (p : Nat) (b : Option (Int × Int)) (rp : Option Nat) (v : Value) (wr : World) : Prop where
  rs : RS wr r a c zs p b rp mv last
  own : wr.ownsRow w.heap.size 107 2 v L.length (rowT L)
  g : w.grownBy wr (some r)
  res : rdLoop zs k L p b = R
  lt : r < w.heap.size

theorem RL.mid {R : List Tm × Nat × Option (Int × Int)} {k : Nat} {L : List Tm} {v : Value} {wr w2 : World} (h : RL w r a c zs mv last R k L p bad rp v wr) (hg : wr.grownBy w2 (some r)) (o : Obj) : (w2.alloc o).ownsRow w.heap.size 107 2 v L.length (rowT L) := own_keptB (own_low h.own hg h.lt) (below_alloc w2 o)
theorem RL.next {R : List Tm × Nat × Option (Int × Int)} {k : Nat} {L : List Tm} {v v' : Value} {wr w2 w4 : World} {rp2 : Option Nat} (h : RL w r a c zs mv last R (k + 1) L p none rp v wr) (hg : wr.grownBy w2 (some r)) (hR : RS w2 r a c zs (tmP zs p) (tmB zs p none) rp2 mv last) (o : Obj)
    (ho : w4.ownsRow w.heap.size 107 2 v' (L.length + 1) (rowT L ++ [.string (txS zs p), .int .u32 (tmN zs p)])) (hg4 : (w2.alloc o).grownBy w4 v.ownBlock) : RL w r a c zs mv last R k (L ++ [tmAt zs p]) (tmP zs p) (tmB zs p none) rp2 v' w4 := by
  have hm := h.mid hg o
  refine ⟨(hR.below (below_alloc w2 o)).off hm h.lt (by decide) hg4, ?_, ?_, ?_, h.lt⟩
  · have e : rowT (L ++ [tmAt zs p]) = rowT L ++ [.string (txS zs p), .int .u32 (tmN zs p)] := by
      unfold rowT
      rw [List.flatMap_append]
      simp [Tm.cells, tmAt, str_txL]
    rw [e, List.length_append]
    exact ho
  · exact grown_new (grown_trans h.g (grown_trans hg (World.grownBy_alloc w2 o (some r)))) hg4 (fun g hgg => (hm.lt g hgg).1)
  · have := h.res
    rw [rdLoop] at this
    simpa using this

set_option maxHeartbeats 8000000 in
theorem readTerms_is (h : RS w r a c zs p bad rp mv last) : Calls Tryz.prog 141 #[.pointer (some ⟨r, 0, none⟩), .int .i64 65535, .func (.func 142) #[.pointer (some ⟨r, 0, none⟩)] #[]] w fun e w' => ∃ v, e = .returned v ∧ w.grownBy w' (some r) ∧ w'.ownsRow w.heap.size 107 2 v (rdTerms zs p bad).1.length (rowT (rdTerms zs p bad).1) ∧ ∃ rp', RS w' r a c zs (rdTerms zs p bad).2.1 (rdTerms zs p bad).2.2 rp' mv last := by
  obtain ⟨i1, hi1, hy0, hy1, hy2⟩ := info_parts info123
  have hbd := rdV_bd h.lies.1 p
  have hlt := blk_lt h.blk
  obtain ⟨_, c1, _, _, _⟩ := five_read h.blk
  have h113 : Hid (Calls Tryz.prog 113 #[.pointer (some ⟨r, 0, none⟩), .int .i64 2] w fun e w' => e = .returned (.int .u32 (rdV zs p 2)) ∧ w.grownBy w' (some r) ∧ ∃ rp', RS w' r a c zs (rdP zs p 2) (rdB zs p 2 bad) rp' mv last) := number_is h 2 (.inr (.inl rfl))
  have hR : Hid (rdLoop zs (rdV zs p 2).toNat [] (rdP zs p 2) (rdB zs p 2 bad) = rdTerms zs p bad) := rfl
  generalize rdTerms zs p bad = R at *
  obtain ⟨n0, hn0⟩ : ∃ n0 : Nat, rdV zs p 2 = (n0 : Int) := ⟨(rdV zs p 2).toNat, by omega⟩
  rw [hn0] at h113 hR hbd
  have hn1 : n0 ≤ 65535 := by omega
  rw [Int.toNat_natCast] at hR
  clear hn0 hbd
  have hltH := Hid.intro hlt
  clear h hlt
  go_enter Tryz.func141, Tryz.ntmps141
  go_wp2_with (go_at_call 113; (with_reducible refine (h113.out).mono ?_); rintro e w1 ⟨rfl, g1, rp1, hR1⟩; replace g1 := Hid.intro g1; replace hR1 := Hid.intro hR1)
  all_goals first | omega | skip
  have hL0 : Hid (RL w r a c zs mv last R n0 [] (rdP zs p 2) (rdB zs p 2 bad) rp1 (.slice none 0 0) w1) := ⟨hR1.out, World.ownsRow_nil _ _ _ _, g1.out, hR.out, hltH.out⟩
  clear g1 hR1 h113 hR c1
  go_loopw [9, 24] (fun v9 v24 wr => ∃ (j : Nat) (L : List Tm) (p' : Nat) (b' : Option (Int × Int)) (rp' : Option Nat) (a9 : Option Addr) (l9 c9 : Nat), j ≤ n0 ∧ v24 = .int .i64 (j : Int) ∧ v9 = .slice a9 l9 c9 ∧ l9 ≤ j ∧ Hid (l9 = L.length) ∧ Hid (RL w r a c zs mv last R (n0 - j) L p' b' rp' (.slice a9 L.length c9) wr)) (fun v9 v24 _ => n0 - (intOf v24).toNat)
  case atStart => exact ⟨0, [], _, _, _, none, 0, 0, by omega, rfl, rfl, by omega, rfl, hL0⟩
  case round =>
    obtain ⟨j, L, p', b', rp', a9, l9, c9, hj, rfl, rfl, hl9, hl, hL⟩ := hrel
    clear hL0
    by_cases hjn : j < n0
    · have hk : Hid (n0 - j = (n0 - (j + 1)) + 1) := by show _ = _; omega
      have h32 := Hid.intro (refused_is hL.out.rs)
      cases b' with
      | some f =>
        go_wp2_with (go_at_call 32; (with_reducible refine (h32.out).mono ?_); rintro e w2 ⟨rfl, hw2⟩; subst w2)
        all_goals first | omega | skip
        go_ret
        have hres : R = ([], p', some f) := by
          rw [← hL.out.res, hk.out, rdLoop]
          rfl
        rw [hres]
        exact ⟨_, rfl, hL.out.g, World.ownsRow_nil _ _ _ _, rp', hL.out.rs⟩
      | none =>
        have h142 := Hid.intro (term_is hL.out.rs)
        have hnx : Hid (∀ w2 rp2 v' w4, wr.grownBy w2 (some r) → RS w2 r a c zs (tmP zs p') (tmB zs p' none) rp2 mv last → w4.ownsRow w.heap.size 107 2 v' (l9 + 1) (rowT L ++ [.string (txS zs p'), .int .u32 (tmN zs p')]) → (w2.alloc (.cells #[.string (txS zs p'), .int .u32 (tmN zs p')] 107)).grownBy w4 (Value.slice a9 l9 c9).ownBlock → RL w r a c zs mv last R (n0 - (j + 1)) (L ++ [tmAt zs p']) (tmP zs p') (tmB zs p' none) rp2 v' w4) := fun w2 rp2 v' w4 h1 h2 h3 h4 => by
          have hh := hL.out
          rw [hk.out] at hh
          rw [hl.out] at h3 h4
          exact hh.next h1 h2 _ h3 h4
        have hmid : Hid (∀ w2, wr.grownBy w2 (some r) → (w2.alloc (.cells #[.string (txS zs p'), .int .u32 (tmN zs p')] 107)).ownsRow w.heap.size 107 2 (.slice a9 l9 c9) l9 (rowT L) ∧ w.heap.size ≤ (w2.alloc (.cells #[.string (txS zs p'), .int .u32 (tmN zs p')] 107)).heap.size) := fun w2 h1 => by
          have := hL.out.mid h1 (.cells #[.string (txS zs p'), .int .u32 (tmN zs p')] 107)
          rw [← hl.out] at this
          exact ⟨this, by have := hL.out.g.size; have := h1.size; simp; omega⟩
        have hll : Hid (l9 + 1 = (L ++ [tmAt zs p']).length) := by show _ = _; rw [List.length_append, hl.out]; rfl
        generalize txS zs p' = S at *
        generalize tmN zs p' = Nn at *
        clear hL hl hk
        go_wp2_with (first
          | (go_at_call 32; (with_reducible refine (h32.out).mono ?_); rintro e w2 ⟨rfl, hw2⟩; subst w2)
          | (go_at_call 142; (with_reducible refine (h142.out).mono ?_); rintro e w3 ⟨rfl, g3, rp3, hR3⟩; obtain ⟨hm1, hm2⟩ := hmid.out w3 g3; replace g3 := Hid.intro g3; replace hR3 := Hid.intro hR3; replace hm1 := Hid.intro hm1)
          | (at_builtin; go_must (refine wpList_app rfl (.tmp 28) (.tmp 31) 82 rfl w.heap.size 107 i1 _ 2 24 Tryz.underlying82 hi1 hy0 hy1 hy2 rfl (by decide) (.slice a9 l9 c9) l9 (rowT L) rfl hm1.out (.slice (some ⟨w3.heap.size, 0, none⟩) 1 1) 1 [.string S, .int .u32 Nn] rfl (.inr ⟨_, _, rfl, cells_new w3 #[.string S, .int .u32 Nn] 107⟩) rfl (by simp [Value.oneCell']) (by unfold maxLen; omega) (by omega) hm2 ?_; intro v' w4 ho4 hg4 hw4; have hn4 := Hid.intro (hnx.out w3 rp3 v' w4 g3.out hR3.out ho4 hg4); obtain ⟨a4, c4, rfl⟩ := own_slice ho4; clear ho4 hg4 hw4)))
        all_goals first | omega | skip
        go_roundw
        case rel => exact ⟨j + 1, _, _, _, rp3, a4, l9 + 1, c4, by omega, by go_num, rfl, by omega, hll, by rw [← hll.out]; exact hn4⟩
        case measure => simp [intOf]; omega
    · obtain rfl : j = n0 := by omega
      go_wp2_with fail
      all_goals first | omega | skip
      go_ret
      have hres : R = (L, p', b') := by
        rw [← hL.out.res, Nat.sub_self, rdLoop]
      rw [hres, hl.out]
      exact ⟨_, rfl, hL.out.g, hL.out.own, rp', hL.out.rs⟩
end
end Go.Proofs.YtmndccbeddaphaaGreatDoor
namespace Go.Proofs.YtmndccbeddaphaaGreatDoor
open Go.ChangeShapes Go.WideShapes Go.ChangeAt Go.RowKit Go.Sort
set_option linter.unusedVariables false
set_option linter.unusedSimpArgs false
set_option maxRecDepth 100000

def liL (zs : List Int) (p : Nat) (b : Option (Int × Int)) : List Tm := (rdTerms zs p b).1
def liN (zs : List Int) (p : Nat) (b : Option (Int × Int)) : Int := rdV zs (rdTerms zs p b).2.1 4
def liP (zs : List Int) (p : Nat) (b : Option (Int × Int)) : Nat := rdP zs (rdTerms zs p b).2.1 4
def liB (zs : List Int) (p : Nat) (b : Option (Int × Int)) : Option (Int × Int) := rdB zs (rdTerms zs p b).2.1 4 (rdTerms zs p b).2.2

section
variable {w w' : World} {r : Nat} {a : Option Addr} {c : Nat} {zs : List Int} {p : Nat} {bad : Option (Int × Int)} {rp : Option Nat} {mv : Value} {last : List UInt8}

/-- a block behind the reader's that is no refusal has changed -/
theorem RS.far (h : RS w r a c zs p bad rp mv last) {q : Nat} {xs : Array Value} {T : TypeId} {m : Nat × Nat} (hq : r < q) (hb : w.heap[q]? = some (.cells xs T m)) (hT : T ≠ 68) (hg : w.grownBy w' (some q)) : RS w' r a c zs p bad rp mv last := by
  refine ⟨(hg.block r (blk_lt h.blk) (fun e => by have := Option.some.inj e; omega)).trans h.blk, lies_grown h.lies (fun z hz => ⟨Nat.lt_trans (h.old z hz) (blk_lt h.blk), fun e => ?_⟩) hg, h.old, h.cap, h.few, h.at_, h.rf.grown (fun q' hq' e => ?_) hg⟩
  · have := h.old z hz; have e' := Option.some.inj e; omega
  · have e' := Option.some.inj e
    subst e'
    have h5 := h.rf
    cases hbb : bad with
    | none => rw [hbb] at h5; rw [hq'] at h5; cases h5
    | some f =>
      rw [hbb] at h5
      obtain ⟨q', h6, h7⟩ := h5
      rw [hq'] at h6
      cases h6
      rw [hb] at h7
      cases h7
      exact hT rfl

set_option maxHeartbeats 4000000 in
theorem lin_is (h : RS w r a c zs p bad rp mv last) : Calls Tryz.prog 116 #[.pointer (some ⟨r, 0, none⟩)] w fun e w' => ∃ v, e = .returned (.agg #[v, .int .u32 (liN zs p bad)]) ∧ w.grownBy w' (some r) ∧ w'.ownsRow w.heap.size 107 2 v (liL zs p bad).length (rowT (liL zs p bad)) ∧ ∃ rp', RS w' r a c zs (liP zs p bad) (liB zs p bad) rp' mv last := by
  have hlt := blk_lt h.blk
  have hA := Hid.intro (h.below (below_alloc w (.cells #[.slice none 0 0, .int .u32 0] 84)))
  have h141 := Hid.intro (readTerms_is hA.out)
  have h113 : Hid (∀ (w2 : World) rp2, RS w2 r a c zs (rdTerms zs p bad).2.1 (rdTerms zs p bad).2.2 rp2 mv last → Calls Tryz.prog 113 #[.pointer (some ⟨r, 0, none⟩), .int .i64 4] w2 fun e w' => e = .returned (.int .u32 (liN zs p bad)) ∧ w2.grownBy w' (some r) ∧ ∃ rp', RS w' r a c zs (liP zs p bad) (liB zs p bad) rp' mv last) := fun w2 rp2 hR => number_is hR 4 (.inr (.inr rfl))
  have hfin : Hid (∀ w2 w3 v y, (w.alloc (.cells #[.slice none 0 0, .int .u32 0] 84)).grownBy w2 (some r) → w2.ownsRow (w.alloc (.cells #[.slice none 0 0, .int .u32 0] 84)).heap.size 107 2 v (rdTerms zs p bad).1.length (rowT (rdTerms zs p bad).1) → w2.grownBy w3 (some r) → (∃ rp', RS w3 r a c zs (liP zs p bad) (liB zs p bad) rp' mv last) → w3.heap[w.heap.size]? = some (.cells #[.slice none 0 0, .int .u32 0] 84 (0, 0)) ∧ ((w3.setCell ⟨w.heap.size, 0, none⟩ v).setCell ⟨w.heap.size, 1, none⟩ y).heap[w.heap.size]? = some (.cells #[v, y] 84 (0, 0)) ∧ w.grownBy ((w3.setCell ⟨w.heap.size, 0, none⟩ v).setCell ⟨w.heap.size, 1, none⟩ y) (some r) ∧ ((w3.setCell ⟨w.heap.size, 0, none⟩ v).setCell ⟨w.heap.size, 1, none⟩ y).ownsRow w.heap.size 107 2 v (liL zs p bad).length (rowT (liL zs p bad)) ∧ ∃ rp', RS ((w3.setCell ⟨w.heap.size, 0, none⟩ v).setCell ⟨w.heap.size, 1, none⟩ y) r a c zs (liP zs p bad) (liB zs p bad) rp' mv last) := fun w2 w3 v y g1 ho g2 hR => by
    have hne : (w.heap.size : Nat) ≠ r := Nat.ne_of_gt hlt
    have g12 := grown_trans g1 g2
    have h0 := heap_alloc_new w (.cells #[.slice none 0 0, .int .u32 0] 84)
    have h3 := (g12.block _ (blk_lt h0) (fun e => hne (Option.some.inj e))).trans h0
    obtain ⟨s1, k1⟩ := row_set h3 0 v
    obtain ⟨s2, k2⟩ := row_set s1 1 y
    have k := grown_trans k1 k2
    have hsz : (w.alloc (.cells #[.slice none 0 0, .int .u32 0] 84)).heap.size = w.heap.size + 1 := by simp
    refine ⟨h3, s2, ?_, ?_, ?_⟩
    · exact grown_new (grown_trans (World.grownBy_alloc w (.cells #[.slice none 0 0, .int .u32 0] 84) (some r)) g12) k (fun g e => by have := Option.some.inj e; omega)
    · have h4 := own_low (own_low ho g2 (by rw [hsz]; omega)) k (by rw [hsz]; omega)
      exact own_weaken h4 (by rw [hsz]; omega)
    · obtain ⟨rp', hR⟩ := hR
      exact ⟨rp', hR.far hlt h3 (by decide) k⟩
  generalize liN zs p bad = n0 at *
  clear h hA
  go_enter Tryz.func116, Tryz.ntmps116
  go_wp2_with (first
    | (go_at_call 141; (with_reducible refine (h141.out).mono ?_); rintro e w2 ⟨v2, rfl, g1, ho2, rp2, hR2⟩; obtain ⟨a2, c2, rfl⟩ := own_slice ho2; replace g1 := Hid.intro g1; replace hR2 := Hid.intro hR2; replace ho2 := Hid.intro ho2)
    | (go_at_call 113; (with_reducible refine (h113.out _ rp2 hR2.out).mono ?_); rintro e w3 ⟨rfl, g2, hR3⟩; obtain ⟨k1, k2, k3, k4, k5⟩ := hfin.out w2 w3 _ (.int .u32 n0) g1.out ho2.out g2 hR3; obtain ⟨d0, d1⟩ := two_readR k1; have df := fun j => frozen_of_row w3 w.heap.size j _ 84 k1; replace k3 := Hid.intro k3; replace k4 := Hid.intro k4; replace k5 := Hid.intro k5; replace k2 := Hid.intro k2; clear k1 g2 hR3))
  all_goals first | omega | skip
  obtain ⟨z0, z1⟩ := two_readR k2.out
  refine bodyPost_ret (by simp [results, Tryz.results116, go_sem, z0, z1]; try rfl) rfl ?_
  exact ⟨_, rfl, k3.out, k4.out, k5.out⟩
end
end Go.Proofs.YtmndccbeddaphaaGreatDoor
