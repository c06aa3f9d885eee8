/- A set of names in memory: map[string]struct{}. -/
import Derived.Test.YtmndccbeddaphaaGreatDoorOcText
import Derived.Test.YtmndccbeddaphaaGreatDoorOcMath
import Derived.Deep.QuietTactic
import Derived.BigQuiet
import Derived.WalkSmall
import Derived.WalkSpells
import Derived.Deep.LoopGhost
import Derived.Test.YtmndccbeddaphaaGreatDoorIFind
import Derived.Maps.OwnSet
import Derived.Maps.OwnOps
namespace Go.Proofs.YtmndccbeddaphaaGreatDoor
open Go.ChangeShapes Go.WideShapes Go.ChangeAt Go.RowKit Go.Sort
set_option linter.unusedVariables false
set_option linter.unusedSimpArgs false
set_option maxRecDepth 100000
def RfO (w : World) (rp : Option Nat) : Option (Int × Int) → Prop
  | none => rp = none
  | some f => ∃ q, rp = some q ∧ w.heap[q]? = some (.cells #[.int .i64 f.1, .int .i64 f.2] 68 (0, 0))
abbrev rpV (rp : Option Nat) : Value := .pointer (rp.map fun q => ⟨q, 0, none⟩)
def firstR (bad : Option (Int × Int)) (f : Int × Int) : Option (Int × Int) := match bad with | none => some f | some g => some g
structure RS (w : World) (r : Nat) (a : Option Addr) (c : Nat) (zs : List Int) (p : Nat) (bad : Option (Int × Int)) (rp : Option Nat) (mv : Value) (last : List UInt8) : Prop where
  blk : w.heap[r]? = some (.cells #[.slice a zs.length c, .int .i64 (p : Int), rpV rp, mv, .string (str last)] 71 (0, 0))
  lies : O.Lies w a zs
  old : ∀ x, a = some x → x.block < r
  cap : zs.length ≤ c
  few : zs.length ≤ 2000000
  at_ : p ≤ zs.length ∨ (bad.isSome = true ∧ p ≤ zs.length + 1)
  rf : RfO w rp bad
theorem five_read {T : TypeId} {w : World} {g : Nat} {v0 v1 v2 v3 v4 : Value} (h : w.heap[g]? = some (.cells #[v0, v1, v2, v3, v4] T (0, 0))) : w.cell? ⟨g, 0, none⟩ = some v0 ∧ w.cell? ⟨g, 1, none⟩ = some v1 ∧ w.cell? ⟨g, 2, none⟩ = some v2 ∧ w.cell? ⟨g, 3, none⟩ = some v3 ∧ w.cell? ⟨g, 4, none⟩ = some v4 :=
  ⟨(cell_blockT h 0).trans rfl, (cell_blockT h 1).trans rfl, (cell_blockT h 2).trans rfl, (cell_blockT h 3).trans rfl, (cell_blockT h 4).trans rfl⟩
theorem keepB {w : World} {g : Nat} {x : Obj} (h : w.heap[g]? = some x) (o : Obj) : (w.alloc o).heap[g]? = some x := ((below_alloc w o).block g (Array.getElem?_eq_some_iff.1 h).1).trans h
section
variable {w w' : World} {r : Nat} {a : Option Addr} {c : Nat} {zs : List Int} {p : Nat} {bad : Option (Int × Int)} {rp : Option Nat} {mv : Value} {last : List UInt8}
theorem lies_grown {k : Option Nat} (h : O.Lies w a zs) (ho : ∀ x, a = some x → x.block < w.heap.size ∧ k ≠ some x.block) (hg : w.grownBy w' k) : O.Lies w' a zs := by
  refine ⟨h.1, ?_⟩
  rcases h.2 with h0 | ⟨b, off, rfl, hc⟩
  · exact .inl h0
  · refine .inr ⟨b, off, rfl, fun i hi => ?_⟩
    obtain ⟨h1, h2⟩ := ho _ rfl
    rw [World.cell?_of_block (hg.block b h1 (Ne.symm h2))]
    exact hc i hi
theorem RfO.grown {k : Option Nat} (h : RfO w rp bad) (hk : ∀ q, rp = some q → k ≠ some q) (hg : w.grownBy w' k) : RfO w' rp bad := by
  cases bad with
  | none => exact h
  | some f =>
    obtain ⟨q, h1, h2⟩ := h
    exact ⟨q, h1, (hg.block q (blk_lt h2) (Ne.symm (hk q h1))).trans h2⟩
theorem RS.rne (h : RS w r a c zs p bad rp mv last) : ∀ q, rp = some q → some r ≠ some q := fun q hq e => by
  cases e
  cases hb : bad with
  | none => rw [hb] at h; have := h.rf; rw [hq] at this; cases this
  | some f =>
    have h1 := h.rf
    rw [hb] at h1
    obtain ⟨q', h2, h3⟩ := h1
    rw [hq] at h2
    cases h2
    rw [h.blk] at h3
    cases h3
theorem RS.put (h : RS w r a c zs p bad rp mv last) {p' : Nat} {bad' : Option (Int × Int)} {rp' : Option Nat} {mv' : Value} {last' : List UInt8} (hg : w.grownBy w' (some r)) (hp : p' ≤ zs.length ∨ (bad'.isSome = true ∧ p' ≤ zs.length + 1))
    (hb : w'.heap[r]? = some (.cells #[.slice a zs.length c, .int .i64 (p' : Int), rpV rp', mv', .string (str last')] 71 (0, 0))) (hr : RfO w' rp' bad') : RS w' r a c zs p' bad' rp' mv' last' :=
  ⟨hb, lies_grown h.lies (fun x hx => ⟨Nat.lt_trans (h.old x hx) (blk_lt h.blk), fun e => by cases e; exact absurd (h.old x hx) (Nat.lt_irrefl _)⟩) hg, h.old, h.cap, h.few, hp, hr⟩
theorem RS.below (h : RS w r a c zs p bad rp mv last) (hb : Below w.heap.size w w') : RS w' r a c zs p bad rp mv last :=
  ⟨(hb.block r (blk_lt h.blk)).trans h.blk, lies_grown h.lies (fun x hx => ⟨Nat.lt_trans (h.old x hx) (blk_lt h.blk), by simp⟩) (grown_of_below hb), h.old, h.cap, h.few, h.at_, h.rf.grown (by simp) (grown_of_below hb)⟩
theorem refused_is (h : RS w r a c zs p bad rp mv last) : Calls Tryz.prog 32 #[.pointer (some ⟨r, 0, none⟩)] w fun e w' => e = .returned (.bool bad.isSome) ∧ w' = w := by
  obtain ⟨_, _, c2, _, _⟩ := five_read h.blk
  have hrf := h.rf
  cases bad with
  | none =>
    have hrp : rp = none := hrf
    subst hrp
    clear h hrf
    simp only [rpV, Option.map_none] at c2
    go_enter Tryz.func32, Tryz.ntmps32
    go_wp2
    all_goals first | omega | skip
    go_ret
    exact ⟨rfl, rfl⟩
  | some f =>
    obtain ⟨q, hq, _⟩ := hrf
    subst hq
    clear h
    simp only [rpV, Option.map_some] at c2
    go_enter Tryz.func32, Tryz.ntmps32
    go_wp2
    all_goals first | omega | skip
    go_ret
    exact ⟨rfl, rfl⟩
theorem refuse_is (h : RS w r a c zs p bad rp mv last) (x y : Int) : Calls Tryz.prog 82 #[.pointer (some ⟨r, 0, none⟩), .int .i64 x, .int .i64 y] w fun e w' => e = .returned (.tuple #[]) ∧ w.grownBy w' (some r) ∧ ∃ rp', RS w' r a c zs p (firstR bad (x, y)) rp' mv last := by
  have h32 := Hid.intro (refused_is h)
  cases hb : bad with
  | some f =>
    rw [hb] at h32 h
    go_enter Tryz.func82, Tryz.ntmps82
    go_wp2_with (go_at_call 32; (with_reducible refine (h32.out).mono ?_); rintro e w1 ⟨rfl, hw1⟩; subst w1)
    all_goals first | omega | skip
    go_end0
    exact ⟨rfl, World.grownBy.refl _ _, rp, h⟩
  | none =>
    rw [hb] at h32 h
    have hlt := blk_lt h.blk
    obtain ⟨_, _, c2, _, _⟩ := five_read h.blk
    have f2 := frozen_of_row _ r 2 _ 71 h.blk
    have hA := keepB h.blk (.cells #[.int .i64 x, .int .i64 y] 68)
    obtain ⟨_, _, d2, _, _⟩ := five_read hA
    have g2 := frozen_of_row _ r 2 _ 71 hA
    have nr : ¬ w.heap.size = r := Nat.ne_of_gt hlt
    obtain ⟨s1, s2⟩ := row_set h.blk 2 (.pointer (some ⟨w.heap.size, 0, none⟩))
    have hfin : Hid (w.grownBy ((w.setCell ⟨r, 2, none⟩ (.pointer (some ⟨w.heap.size, 0, none⟩))).alloc (.cells #[.int .i64 x, .int .i64 y] 68)) (some r) ∧ ∃ rp', RS ((w.setCell ⟨r, 2, none⟩ (.pointer (some ⟨w.heap.size, 0, none⟩))).alloc (.cells #[.int .i64 x, .int .i64 y] 68)) r a c zs p (firstR none (x, y)) rp' mv last) := by
      have hg := grown_trans s2 (World.grownBy_alloc (w.setCell ⟨r, 2, none⟩ (.pointer (some ⟨w.heap.size, 0, none⟩))) (.cells #[.int .i64 x, .int .i64 y] 68) (some r))
      refine ⟨hg, some w.heap.size, h.put hg (.inl (h.at_.resolve_right (fun hh => by cases hh.1))) (keepB s1 _) ⟨w.heap.size, rfl, ?_⟩⟩
      have := heap_alloc_new (w.setCell ⟨r, 2, none⟩ (.pointer (some ⟨w.heap.size, 0, none⟩))) (.cells #[.int .i64 x, .int .i64 y] 68)
      rw [show (w.setCell ⟨r, 2, none⟩ (.pointer (some ⟨w.heap.size, 0, none⟩))).heap.size = w.heap.size by simp] at this
      exact this
    clear h s1 s2
    go_enter Tryz.func82, Tryz.ntmps82
    go_wp2_with (go_at_call 32; (with_reducible refine (h32.out).mono ?_); rintro e w1 ⟨rfl, hw1⟩; subst w1)
    all_goals first | omega | skip
    go_end0
    exact ⟨rfl, hfin.out⟩
def rdV (zs : List Int) (p wd : Nat) : Int := if p + wd ≤ zs.length then O.leN ((zs.drop p).take wd) else 0
def rdP (zs : List Int) (p wd : Nat) : Nat := if p + wd ≤ zs.length then p + wd else p
def rdB (zs : List Int) (p wd : Nat) (bad : Option (Int × Int)) : Option (Int × Int) := if p + wd ≤ zs.length then bad else firstR bad (zs.length, 10)
set_option maxHeartbeats 4000000 in
theorem number_is (h : RS w r a c zs p bad rp mv last) (wd : Nat) (hw : wd = 1 ∨ wd = 2 ∨ wd = 4) : Calls Tryz.prog 113 #[.pointer (some ⟨r, 0, none⟩), .int .i64 (wd : Int)] w fun e w' => e = .returned (.int .u32 (rdV zs p wd)) ∧ w.grownBy w' (some r) ∧ ∃ rp', RS w' r a c zs (rdP zs p wd) (rdB zs p wd bad) rp' mv last := by
  have hat : p ≤ zs.length + 1 := by rcases h.at_ with h1 | ⟨_, h1⟩ <;> omega
  have hfw := h.few
  have hiw : O.isW (wd : Int) = true := by rcases hw with rfl | rfl | rfl <;> rfl
  have hget := Hid.intro (fun n => O.get_any a c zs (p : Int) (wd : Int) (w.drewN n) (lies_grown h.lies (fun x hx => ⟨Nat.lt_trans (h.old x hx) (blk_lt h.blk), by simp⟩) (grown_of_below (below_drewN (Below.refl w.heap.size w) n))) (by unfold maxLen; omega) (by omega))
  obtain ⟨n0, hn0⟩ : ∃ n0, n0 = zs.length := ⟨_, rfl⟩
  have hblk := h.blk
  rw [← hn0] at hblk hget hat hfw
  obtain ⟨c0, c1, _, _, _⟩ := five_read hblk
  by_cases hq : p + wd ≤ n0
  · have e1 : O.getE zs (p : Int) (wd : Int) = 0 := by unfold O.getE; rw [hiw, if_neg (by rw [← hn0]; simp; omega), if_neg (by rw [← hn0]; omega)]
    have e2 : O.getN zs (p : Int) (wd : Int) = rdV zs p wd := by unfold O.getN rdV; rw [if_pos e1, if_pos (by omega)]; rfl
    rw [e1, e2] at hget
    have f1 := fun (n : Nat) => frozen_of_row (w.drewN n) r 1 _ 71 hblk
    have hfin : Hid (∀ n, w.grownBy ((w.drewN n).setCell ⟨r, 1, none⟩ (.int .i64 ((p : Int) + wd))) (some r) ∧ ∃ rp', RS ((w.drewN n).setCell ⟨r, 1, none⟩ (.int .i64 ((p : Int) + wd))) r a c zs (rdP zs p wd) (rdB zs p wd bad) rp' mv last) := fun n => by
      obtain ⟨s1, s2⟩ := row_set (show (w.drewN n).heap[r]? = _ from h.blk) 1 (.int .i64 ((p : Int) + wd))
      have hg : w.grownBy ((w.drewN n).setCell ⟨r, 1, none⟩ (.int .i64 ((p : Int) + wd))) (some r) := ⟨s2.os, s2.tape, s2.output, s2.size, s2.block⟩
      refine ⟨hg, rp, ?_⟩
      unfold rdP rdB
      rw [if_pos (by omega), if_pos (by omega)]
      exact h.put hg (.inl (by omega)) s1 (h.rf.grown h.rne hg)
    generalize rdV zs p wd = V at *
    clear h hblk e1 e2 hiw hn0
    go_enter Tryz.func113, Tryz.ntmps113
    go_wp2
    all_goals first | omega | skip
    go_quiet ((go_at_call 137; with_reducible exact Calls.quiet_of_same (hget.out _)))
    go_wp2
    all_goals first | omega | skip
    go_ret
    exact ⟨rfl, hfin.out _⟩
  · obtain ⟨te, hte⟩ : ∃ te, te = O.getE zs (p : Int) (wd : Int) := ⟨_, rfl⟩
    have hne : te ≠ 0 := by
      rw [hte]
      unfold O.getE
      rw [hiw]
      split
      · decide
      · rw [if_pos (by rw [← hn0]; omega)]; decide
    have hfst : firstR bad ((n0 : Int), te) = firstR bad ((n0 : Int), 10) := by
      rcases h.at_ with h1 | ⟨h1, _⟩
      · have : te = 10 := by rw [hte]; unfold O.getE; rw [hiw, if_neg (by simp; omega), if_pos (by rw [← hn0]; omega)]
        rw [this]
      · cases bad with
        | none => cases h1
        | some f => rfl
    have e2 : O.getN zs (p : Int) (wd : Int) = 0 := by unfold O.getN; rw [if_neg (by rw [← hte]; exact hne)]
    have e3 : rdV zs p wd = 0 := by unfold rdV; rw [if_neg (by omega)]
    rw [← hte, e2] at hget
    rw [e3]
    have hq2 : (te == 0) = false := by simpa using hne
    have hrf : Hid (∀ n, Calls Tryz.prog 82 #[.pointer (some ⟨r, 0, none⟩), .int .i64 (n0 : Int), .int .i64 te] (w.drewN n) fun e w' => e = .returned (.tuple #[]) ∧ w.grownBy w' (some r) ∧ ∃ rp', RS w' r a c zs (rdP zs p wd) (rdB zs p wd bad) rp' mv last) := fun n => by
      refine (refuse_is (h.below (below_drewN (Below.refl w.heap.size w) n)) (n0 : Int) te).mono ?_
      rintro e w' ⟨rfl, hg, rp', hR⟩
      refine ⟨rfl, ⟨hg.os, hg.tape, hg.output, hg.size, hg.block⟩, rp', ?_⟩
      unfold rdP rdB
      rw [if_neg (by omega), if_neg (by omega), ← hn0, ← hfst]
      exact hR
    clear hte hfst hne
    clear h hblk e2 e3 hiw hn0
    go_enter Tryz.func113, Tryz.ntmps113
    go_wp2
    all_goals first | omega | skip
    go_quiet ((go_at_call 137; with_reducible exact Calls.quiet_of_same (hget.out _)))
    go_wp2_with (go_at_call 82; (with_reducible refine (hrf.out _).mono ?_); rintro e w2 ⟨rfl, hg2, hR2⟩; replace hg2 := Hid.intro hg2; replace hR2 := Hid.intro hR2)
    all_goals first | omega | skip
    go_ret
    exact ⟨rfl, hg2.out, hR2.out⟩
end
end Go.Proofs.YtmndccbeddaphaaGreatDoor
namespace Go.Proofs.YtmndccbeddaphaaGreatDoor
open Go.ChangeShapes Go.WideShapes Go.ChangeAt Go.RowKit Go.Sort
set_option linter.unusedVariables false
set_option linter.unusedSimpArgs false
set_option maxRecDepth 100000
def txS (zs : List Int) (p : Nat) : ByteArray := O.getTS zs (p : Int) 65535
def txP (zs : List Int) (p : Nat) : Nat := if O.getTE zs (p : Int) 65535 = 0 then p + 2 + (O.getN zs (p : Int) 2).toNat else p
def txB (zs : List Int) (p : Nat) (bad : Option (Int × Int)) : Option (Int × Int) := if O.getTE zs (p : Int) 65535 = 0 then bad else firstR bad (zs.length, O.getTE zs (p : Int) 65535)
theorem getN_bd {zs : List Int} (hz : O.AreBytes zs) (p : Int) : 0 ≤ O.getN zs p 2 ∧ O.getN zs p 2 ≤ 65535 := by
  unfold O.getN
  split
  · have hb := O.leN_bd ((zs.drop p.toNat).take 2) (O.areBytes_take _ (O.areBytes_drop _ hz _) 2)
    have hl : ((zs.drop p.toNat).take 2).length ≤ 2 := by simp; omega
    have hp : (256 : Int) ^ ((zs.drop p.toNat).take 2).length ≤ 65536 := by
      have : ((zs.drop p.toNat).take 2).length = 0 ∨ ((zs.drop p.toNat).take 2).length = 1 ∨ ((zs.drop p.toNat).take 2).length = 2 := by omega
      rcases this with h | h | h <;> rw [h] <;> decide
    show 0 ≤ O.leN ((zs.drop p.toNat).take 2) ∧ O.leN ((zs.drop p.toNat).take 2) ≤ 65535
    omega
  · omega
section
variable {w w' : World} {r : Nat} {a : Option Addr} {c : Nat} {zs : List Int} {p : Nat} {bad : Option (Int × Int)} {rp : Option Nat} {mv : Value} {last : List UInt8}
set_option maxHeartbeats 4000000 in
theorem text_is (h : RS w r a c zs p bad rp mv last) : Calls Tryz.prog 115 #[.pointer (some ⟨r, 0, none⟩)] w fun e w' => e = .returned (.string (txS zs p)) ∧ w.grownBy w' (some r) ∧ ∃ rp', RS w' r a c zs (txP zs p) (txB zs p bad) rp' mv last := by
  have hat : p ≤ zs.length + 1 := by rcases h.at_ with h1 | ⟨_, h1⟩ <;> omega
  have hfw := h.few
  have hN := getN_bd h.lies.1 (p : Int)
  have hget := Hid.intro (fun n => O.getText_any a c zs (p : Int) 65535 (w.drewN n) (lies_grown h.lies (fun x hx => ⟨Nat.lt_trans (h.old x hx) (blk_lt h.blk), by simp⟩) (grown_of_below (below_drewN (Below.refl w.heap.size w) n))) (by unfold maxLen; omega) h.cap (by omega))
  obtain ⟨n0, hn0⟩ : ∃ n0, n0 = zs.length := ⟨_, rfl⟩
  have hblk := h.blk
  rw [← hn0] at hblk hget hat hfw
  obtain ⟨c0, c1, _, _, _⟩ := five_read hblk
  by_cases hq : O.getTE zs (p : Int) 65535 = 0
  · have e1 : O.getTo zs (p : Int) 65535 = ((txP zs p : Nat) : Int) := by unfold O.getTo txP; rw [if_pos hq, if_pos hq]; omega
    have hle : txP zs p ≤ zs.length := by
      unfold txP
      rw [if_pos hq]
      unfold O.getTE at hq
      split at hq
      · split at hq
        · cases hq
        · split at hq
          · cases hq
          · omega
      · contradiction
    rw [hq, e1] at hget
    have f1 := fun (n : Nat) => frozen_of_row (w.drewN n) r 1 _ 71 hblk
    have hfin : Hid (∀ n, w.grownBy ((w.drewN n).setCell ⟨r, 1, none⟩ (.int .i64 ((txP zs p : Nat) : Int))) (some r) ∧ ∃ rp', RS ((w.drewN n).setCell ⟨r, 1, none⟩ (.int .i64 ((txP zs p : Nat) : Int))) r a c zs (txP zs p) (txB zs p bad) rp' mv last) := fun n => by
      obtain ⟨s1, s2⟩ := row_set (show (w.drewN n).heap[r]? = _ from h.blk) 1 (.int .i64 ((txP zs p : Nat) : Int))
      have hg : w.grownBy ((w.drewN n).setCell ⟨r, 1, none⟩ (.int .i64 ((txP zs p : Nat) : Int))) (some r) := ⟨s2.os, s2.tape, s2.output, s2.size, s2.block⟩
      refine ⟨hg, rp, ?_⟩
      unfold txB
      rw [if_pos hq]
      exact h.put hg (.inl hle) s1 (h.rf.grown h.rne hg)
    have hS : Hid (O.getTS zs (p : Int) 65535 = txS zs p) := rfl
    rw [hS.out] at hget
    generalize txS zs p = S at *
    generalize txP zs p = P at *
    clear h hblk e1 hn0 hq hN hle hS
    go_enter Tryz.func115, Tryz.ntmps115
    go_wp2
    all_goals first | omega | skip
    go_quiet ((go_at_call 140; with_reducible exact Calls.quiet_of_same (hget.out _)))
    go_wp2
    all_goals first | omega | skip
    go_ret
    exact ⟨rfl, hfin.out _⟩
  · obtain ⟨te, hte⟩ : ∃ te, te = O.getTE zs (p : Int) 65535 := ⟨_, rfl⟩
    have hS : txS zs p = ByteArray.empty := by unfold txS O.getTS; rw [if_neg hq]
    have hS2 : O.getTS zs (p : Int) 65535 = ByteArray.empty := hS
    have hrf : Hid (∀ n, Calls Tryz.prog 82 #[.pointer (some ⟨r, 0, none⟩), .int .i64 (n0 : Int), .int .i64 te] (w.drewN n) fun e w' => e = .returned (.tuple #[]) ∧ w.grownBy w' (some r) ∧ ∃ rp', RS w' r a c zs (txP zs p) (txB zs p bad) rp' mv last) := fun n => by
      refine (refuse_is (h.below (below_drewN (Below.refl w.heap.size w) n)) (n0 : Int) te).mono ?_
      rintro e w' ⟨rfl, hg, rp', hR⟩
      refine ⟨rfl, ⟨hg.os, hg.tape, hg.output, hg.size, hg.block⟩, rp', ?_⟩
      unfold txP txB
      rw [if_neg hq, if_neg hq, ← hn0, ← hte]
      exact hR
    rw [hS]
    rw [← hte, hS2] at hget
    rw [← hte] at hq
    have hq2 : (te == 0) = false := by simpa using hq
    generalize O.getTo zs (p : Int) 65535 = tt at *
    clear h hblk hn0 hte hN hS hS2
    go_enter Tryz.func115, Tryz.ntmps115
    go_wp2
    all_goals first | omega | skip
    go_quiet ((go_at_call 140; with_reducible exact Calls.quiet_of_same (hget.out _)))
    go_wp2_with (go_at_call 82; (with_reducible refine (hrf.out _).mono ?_); rintro e w2 ⟨rfl, hg2, hR2⟩; replace hg2 := Hid.intro hg2; replace hR2 := Hid.intro hR2)
    all_goals first | omega | skip
    go_ret
    exact ⟨rfl, hg2.out, hR2.out⟩
end
end Go.Proofs.YtmndccbeddaphaaGreatDoor
namespace Go.Proofs.YtmndccbeddaphaaGreatDoor
open Go.ChangeShapes Go.WideShapes Go.ChangeAt Go.RowKit Go.Sort
set_option linter.unusedVariables false
set_option linter.unusedSimpArgs false
set_option maxRecDepth 100000
def hdL : List Int := [83, 80, 65, 78, 1]
def HdI (zs : List Int) (i : Nat) (bad : Option (Int × Int)) : Prop :=
  (bad = none ∧ i ≤ 5 ∧ i ≤ zs.length ∧ zs.take i = hdL.take i) ∨ ∃ m : Nat, m < 5 ∧ m ≤ zs.length ∧ bad = some ((m : Int), 15) ∧ i = m + 1 ∧ zs.take m = hdL.take m ∧ zs[m]? ≠ hdL[m]?
section
variable {w w' : World} {r : Nat} {a : Option Addr} {c : Nat} {zs : List Int} {p : Nat} {bad : Option (Int × Int)} {rp : Option Nat} {mv : Value} {last : List UInt8}
theorem grown_drew {n : Nat} {k : Option Nat} (hg : (w.drewN n).grownBy w' k) : w.grownBy w' k := ⟨hg.os, hg.tape, hg.output, hg.size, hg.block⟩
theorem hdI_next {i : Nat} {z : Int} (h : HdI zs i none) (hi : i < 5) (hz : zs[i]? = some z) (he : hdL[i]? = some z) : HdI zs (i + 1) none := by
  rcases h with ⟨_, h1, h2, h3⟩ | ⟨m, _, _, h, _⟩
  · have hlt := (List.getElem?_eq_some_iff.1 hz).1
    refine .inl ⟨rfl, by omega, by omega, ?_⟩
    rw [List.take_add_one, List.take_add_one, h3, hz, he]
  · cases h
theorem hdI_bad {i : Nat} (h : HdI zs i none) (hi : i < 5) (hz : zs[i]? ≠ hdL[i]?) : HdI zs (i + 1) (some ((i : Int), 15)) := by
  rcases h with ⟨_, h1, h2, h3⟩ | ⟨m, _, _, h, _⟩
  · exact .inr ⟨i, hi, h2, rfl, rfl, h3, hz⟩
  · cases h
theorem hd_index (i : Nat) (hi : i < 5) : ∃ y : Int, hdL[i]? = some y ∧ ∀ W : World, (Instr.index 9 (.string ⟨#[83, 80, 65, 78, 1]⟩) (.int .i64 (i : Int))).run Tryz.prog W = .ok (.int .u8 y) W := by
  have : i = 0 ∨ i = 1 ∨ i = 2 ∨ i = 3 ∨ i = 4 := by omega
  rcases this with rfl | rfl | rfl | rfl | rfl
  · exact ⟨83, rfl, fun W => by kernel_rfl⟩
  · exact ⟨80, rfl, fun W => by kernel_rfl⟩
  · exact ⟨65, rfl, fun W => by kernel_rfl⟩
  · exact ⟨78, rfl, fun W => by kernel_rfl⟩
  · exact ⟨1, rfl, fun W => by kernel_rfl⟩
theorem RS.next (h : RS w r a c zs p bad rp mv last) (hp : p + 1 ≤ zs.length ∨ (bad.isSome = true ∧ p + 1 ≤ zs.length + 1)) : w.cell? ⟨r, 1, none⟩ = some (.int .i64 (p : Int)) ∧ w.frozen? ⟨r, 1, none⟩ = false ∧ w.grownBy (w.setCell ⟨r, 1, none⟩ (.int .i64 ((p : Int) + 1))) (some r) ∧ RS (w.setCell ⟨r, 1, none⟩ (.int .i64 ((p : Int) + 1))) r a c zs (p + 1) bad rp mv last := by
  obtain ⟨s1, s2⟩ := row_set h.blk 1 (.int .i64 ((p : Int) + 1))
  exact ⟨(five_read h.blk).2.1, frozen_of_row _ r 1 _ 71 h.blk, s2, h.put s2 hp s1 (h.rf.grown h.rne s2)⟩
set_option maxHeartbeats 8000000 in
theorem head_is (h : RS w r a c zs 0 none none mv last) : Calls Tryz.prog 74 #[.pointer (some ⟨r, 0, none⟩)] w fun e w' => e = .returned (.tuple #[]) ∧ w.grownBy w' (some r) ∧ ∃ p' bad' rp', RS w' r a c zs p' bad' rp' mv last ∧ HdI zs p' bad' ∧ (bad' = none → p' = 5) := by
  have hfw := h.few
  obtain ⟨n0, hn0⟩ : ∃ n0, n0 = zs.length := ⟨_, rfl⟩
  rw [← hn0] at hfw
  have hN := Hid.intro hn0
  have h0 := Hid.intro h
  clear h hn0
  go_enter Tryz.func74, Tryz.ntmps74
  go_wp2
  go_loopg [] 6 (fun k wr => ∃ i bad' rp', i + k = 6 ∧ Hid (RS wr r a c zs i bad' rp' mv last) ∧ Hid (w.grownBy wr (some r)) ∧ Hid (HdI zs i bad'))
  case atStart => exact ⟨0, none, none, by omega, h0, World.grownBy.refl _ _, .inl ⟨rfl, by omega, by omega, rfl⟩⟩
  case round =>
    obtain ⟨i, bad', rp', hik, hR, hG, hI⟩ := hrel
    have h32 := Hid.intro (refused_is hR.out)
    have hblk := hR.out.blk
    rw [← hN.out] at hblk
    obtain ⟨c0, c1, _, _, _⟩ := five_read hblk
    cases bad' with
    | some f =>
      clear hblk
      by_cases hi : i < 5
      · have hi' : decide ((i : Int) < 5) = true := by simp; omega
        go_wp2_with (go_at_call 32; (with_reducible refine (h32.out).mono ?_); rintro e w1 ⟨rfl, hw1⟩; subst w1)
        all_goals first | omega | skip
        go_end0
        exact ⟨rfl, hG.out, i, _, rp', hR.out, hI.out, fun e => by cases e⟩
      · have hi' : decide ((i : Int) < 5) = false := by simp; omega
        go_wp2_with fail
        all_goals first | omega | skip
        go_end0
        exact ⟨rfl, hG.out, i, _, rp', hR.out, hI.out, fun e => by cases e⟩
    | none =>
      by_cases hi : i < 5
      · have hi' : decide ((i : Int) < 5) = true := by simp; omega
        have hle : i ≤ n0 := by
          rcases hI.out with ⟨_, _, h1, _⟩ | ⟨_, _, _, h1, _⟩
          · have := hN.out; omega
          · cases h1
        obtain ⟨y, hy, hix⟩ := hd_index i hi
        have hrf : Hid (∀ n, Calls Tryz.prog 82 #[.pointer (some ⟨r, 0, none⟩), .int .i64 (i : Int), .int .i64 15] (wr.drewN n) fun e w' => e = .returned (.tuple #[]) ∧ w'.cell? ⟨r, 1, none⟩ = some (.int .i64 (i : Int)) ∧ w'.frozen? ⟨r, 1, none⟩ = false ∧ w.grownBy (w'.setCell ⟨r, 1, none⟩ (.int .i64 ((i : Int) + 1))) (some r) ∧ ∃ rp', RS (w'.setCell ⟨r, 1, none⟩ (.int .i64 ((i : Int) + 1))) r a c zs (i + 1) (some ((i : Int), 15)) rp' mv last) := fun n => by
          refine (refuse_is (hR.out.below (below_drewN (Below.refl wr.heap.size wr) n)) (i : Int) 15).mono ?_
          rintro e w' ⟨rfl, hg, rp2, hR2⟩
          obtain ⟨k1, k2, k3, k4⟩ := RS.next hR2 (.inr ⟨rfl, by have := hN.out; omega⟩)
          exact ⟨rfl, k1, k2, grown_trans hG.out (grown_trans (grown_drew hg) k3), rp2, k4⟩
        by_cases hend : i = n0
        · have hz : zs[i]? ≠ hdL[i]? := by rw [hy, List.getElem?_eq_none (by have := hN.out; omega)]; simp
          have hnx := Hid.intro (hdI_bad hI.out hi hz)
          have he : ((i : Int) == (n0 : Int)) = true := by simp; omega
          clear hblk hz hI
          subst hend
          go_upto_region 1 with (go_at_call 32; (with_reducible refine (h32.out).mono ?_); rintro e w1 ⟨rfl, hw1⟩; subst w1)
          all_goals first | omega | skip
          go_quiet (fail)
          go_wp2_with (go_at_call 82; (with_reducible refine (hrf.out _).mono ?_); rintro e w2 ⟨rfl, k1, k2, k3, k4⟩; replace k3 := Hid.intro k3; replace k4 := Hid.intro k4)
          all_goals first | omega | skip
          go_roundg (gk - 1)
          case measure => omega
          case rel =>
            obtain ⟨rp2, hR2⟩ := k4.out
            exact ⟨i + 1, _, rp2, by omega, hR2, k3, hnx⟩
        · have hlt : i < n0 := by omega
          obtain ⟨g, o, ha, hcells⟩ : ∃ g o, a = some ⟨g, o, none⟩ ∧ ∀ j, j < zs.length → wr.cell? ⟨g, o + j, none⟩ = some (.int .u8 (zs.getD j 0)) := by
            rcases hR.out.lies.2 with h1 | h1
            · have h2 := hN.out; rw [h1] at h2; simp at h2; omega
            · exact h1
          obtain ⟨z, hz⟩ : ∃ z, zs[i]? = some z := ⟨zs[i]'(by have := hN.out; omega), List.getElem?_eq_getElem _⟩
          have hc := hcells i (by have := hN.out; omega)
          rw [List.getD_eq_getElem?_getD, hz, Option.getD_some] at hc
          rw [ha] at c0
          have he : ((i : Int) == (n0 : Int)) = false := by simp; omega
          have i1 : (0 : Int) ≤ (i : Int) := by omega
          have i2 : (i : Int) < (n0 : Int) := by omega
          by_cases hzy : z = y
          · have hnx := Hid.intro (hdI_next hI.out hi hz (by rw [hzy]; exact hy))
            have hst : Hid (∀ n, (wr.drewN n).frozen? ⟨r, 1, none⟩ = false ∧ w.grownBy ((wr.drewN n).setCell ⟨r, 1, none⟩ (.int .i64 ((i : Int) + 1))) (some r) ∧ RS ((wr.drewN n).setCell ⟨r, 1, none⟩ (.int .i64 ((i : Int) + 1))) r a c zs (i + 1) none rp' mv last) := fun n => by
              obtain ⟨k1, k2, k3, k4⟩ := RS.next (hR.out.below (below_drewN (Below.refl wr.heap.size wr) n)) (.inl (by have := hN.out; omega))
              exact ⟨k2, grown_trans hG.out (grown_drew k3), k4⟩
            have f1 : wr.frozen? ⟨r, 1, none⟩ = false := (hst.out 0).1
            subst hzy
            clear hblk hz hI hcells ha hrf hy
            go_upto_region 1 with (go_at_call 32; (with_reducible refine (h32.out).mono ?_); rintro e w1 ⟨rfl, hw1⟩; subst w1)
            all_goals first | omega | skip
            go_quiet (fail)
            go_wp2_with fail
            all_goals first | omega | skip
            go_roundg (gk - 1)
            case measure => omega
            case rel => exact ⟨i + 1, _, rp', by omega, (hst.out _).2.2, (hst.out _).2.1, hnx⟩
          · have hnx := Hid.intro (hdI_bad hI.out hi (by rw [hy, hz]; simpa using hzy))
            have hzb : (z == y) = false := by simpa using hzy
            clear hblk hz hI hcells ha hy
            go_upto_region 1 with (go_at_call 32; (with_reducible refine (h32.out).mono ?_); rintro e w1 ⟨rfl, hw1⟩; subst w1)
            all_goals first | omega | skip
            go_quiet (fail)
            go_wp2_with (go_at_call 82; (with_reducible refine (hrf.out _).mono ?_); rintro e w2 ⟨rfl, k1, k2, k3, k4⟩; replace k3 := Hid.intro k3; replace k4 := Hid.intro k4)
            all_goals first | omega | skip
            go_roundg (gk - 1)
            case measure => omega
            case rel =>
              obtain ⟨rp2, hR2⟩ := k4.out
              exact ⟨i + 1, _, rp2, by omega, hR2, k3, hnx⟩
      · have hi' : decide ((i : Int) < 5) = false := by simp; omega
        clear hblk
        go_wp2_with fail
        all_goals first | omega | skip
        go_end0
        refine ⟨rfl, hG.out, i, _, rp', hR.out, hI.out, fun _ => ?_⟩
        rcases hI.out with ⟨_, h1, _⟩ | ⟨_, _, _, h1, _⟩
        · omega
        · cases h1
end
end Go.Proofs.YtmndccbeddaphaaGreatDoor
namespace Go.Proofs.YtmndccbeddaphaaGreatDoor
open Go.ChangeShapes Go.WideShapes Go.ChangeAt Go.RowKit Go.WideMaps Go.Maps
set_option linter.unusedVariables false
set_option maxRecDepth 100000
theorem lawS : Keyed Tryz.prog 9 := string_keyed Tryz.underlying9
theorem zero164 (w : World) : (zeroValue 164).run Tryz.prog w = .ok (.agg #[]) w := by kernel_rfl
def unitE (v : Value) : Option (DataW Unit × List MemPlace) :=
  match v with
  | .agg a => if a = #[] then some (.agg [], []) else none
  | _ => none
theorem unitE_zero : unitE (.agg #[]) = some (.agg [], []) := rfl
theorem unitE_inv {v : Value} {z : DataW Unit × List MemPlace} (h : unitE v = some z) : v = .agg #[] := by
  unfold unitE at h
  split at h
  · split at h
    · rename_i ha; rw [ha]
    · cases h
  · cases h
def SetIs (w : World) (b n : Nat) (g : List (List UInt8)) : Prop :=
  ∃ D : DataW Unit, w.ownsMap Tryz.prog 9 unitE b n D ∧ IsMap D ∧ ∀ s, has D (.string s) = decide (s ∈ g)
theorem SetIs.lt {w : World} {b n : Nat} {g : List (List UInt8)} (h : SetIs w b n g) : b < w.heap.size := by
  obtain ⟨D, h1, _⟩ := h
  exact h1.lt
theorem SetIs.kept {w w' : World} {b n : Nat} {row : Option Nat} {g : List (List UInt8)} (h : SetIs w b n g) (hg : w.grownBy w' row) (hne : some b ≠ row) : SetIs w' b n g := by
  obtain ⟨D, h1, h2, h3⟩ := h
  exact ⟨D, h1.kept hg hne, h2, h3⟩
theorem setlook_run {w : World} {b n : Nat} {g : List (List UInt8)} (h : SetIs w b n g) (s : List UInt8) (hs : s.length ≤ 1100000) : (Instr.lookup 69 (.map (some b)) (.string (str s)) true).run Tryz.prog w = .ok (.tuple #[.agg #[], .bool (decide (s ∈ g))]) w := by
  obtain ⟨D, hown, hD1, hD2⟩ := h
  have hsz : (str s).size ≤ maxLen := by
    have h2 : (str s).size = s.length := by simp [str, ByteArray.size]
    unfold maxLen
    omega
  have hkey : keyOf Tryz.prog 9 (.string (str s)) = some (.string s) := keyOf_string_mk Tryz.underlying9 hsz
  obtain ⟨v, ps, hrun, hv⟩ := hown.look_ok lawS Tryz.underlying69 (zero164 w) unitE_zero hkey
  rw [hrun, unitE_inv hv, hD2 s]
theorem setspec_put {D : DataW Unit} {g : List (List UInt8)} (h : ∀ s, has D (.string s) = decide (s ∈ g)) (hD : IsMap D) (s : List UInt8) : ∀ x, has (D.put (.string s) (.agg [])) (.string x) = decide (x ∈ g ++ [s]) := by
  intro x
  by_cases hx : x = s
  · subst hx
    rw [has_put_same hD (show WideAt.IsKeyLit (.string x) from trivial)]
    simp
  · have n1 : (Lit.string x) ≠ .string s := fun e => hx (by injection e)
    rw [has_put_other n1, h x]
    simp [hx]
theorem setput_run {w : World} {b n : Nat} {g : List (List UInt8)} (h : SetIs w b n g) (hn : n ≤ 3000000) (s : List UInt8) (hs : s.length ≤ 1100000) :
    ∃ w', (Instr.mapUpdate 69 (.map (some b)) (.string (str s)) (.agg #[])).run Tryz.prog w = .ok () w' ∧ SetIs w' b (n + 1) (g ++ [s]) ∧ w.grownBy w' (some b) := by
  obtain ⟨D, hown, hD1, hD2⟩ := h
  have hsz : (str s).size ≤ maxLen := by
    have h2 : (str s).size = s.length := by simp [str, ByteArray.size]
    unfold maxLen
    omega
  have hkey : keyOf Tryz.prog 9 (.string (str s)) = some (.string s) := keyOf_string_mk Tryz.underlying9 hsz
  obtain ⟨w', hrun, r1, r2⟩ := hown.update lawS Tryz.underlying69 (by unfold maxLen; omega) hkey unitE_zero
  exact ⟨w', hrun, ⟨_, r1, hD1.put _ _, setspec_put hD2 hD1 s⟩, r2⟩
end Go.Proofs.YtmndccbeddaphaaGreatDoor
