/- The document's reader of objects in memory: refuse, number. -/
import Derived.Test.YtmndccbeddaphaaGreatDoorOrd4
namespace Go.Proofs.YtmndccbeddaphaaGreatDoor
open Go.ChangeShapes Go.WideShapes Go.ChangeAt Go.RowKit Go.Sort
set_option linter.unusedVariables false
set_option linter.unusedSimpArgs false
set_option maxRecDepth 100000
abbrev bdA (bad : Option (Int × Int)) : Int := (bad.getD (0, 0)).1
abbrev bdW (bad : Option (Int × Int)) : Int := (bad.getD (0, 0)).2
structure RD (w : World) (r : Nat) (a : Option Addr) (c : Nat) (zs : List Int) (p : Nat) (bad : Option (Int × Int)) : Prop where
  blk : w.heap[r]? = some (.cells #[.slice a zs.length c, .int .i64 (p : Int), .int .i64 (bdA bad), .int .i64 (bdW bad)] 93 (0, 0))
  nz : ∀ f, bad = some f → f.2 ≠ 0
  lies : O.Lies w a zs
  old : ∀ x, a = some x → x.block < r
  cap : zs.length ≤ c
  few : zs.length ≤ 2000000
  at_ : p ≤ zs.length
theorem four_readD {T : TypeId} {w : World} {g : Nat} {v0 v1 v2 v3 : Value} (h : w.heap[g]? = some (.cells #[v0, v1, v2, v3] T (0, 0))) : w.cell? ⟨g, 0, none⟩ = some v0 ∧ w.cell? ⟨g, 1, none⟩ = some v1 ∧ w.cell? ⟨g, 2, none⟩ = some v2 ∧ w.cell? ⟨g, 3, none⟩ = some v3 :=
  ⟨(cell_blockT h 0).trans rfl, (cell_blockT h 1).trans rfl, (cell_blockT h 2).trans rfl, (cell_blockT h 3).trans rfl⟩
section
variable {w w' : World} {r : Nat} {a : Option Addr} {c : Nat} {zs : List Int} {p : Nat} {bad : Option (Int × Int)}
theorem RD.put (h : RD w r a c zs p bad) {p' : Nat} {bad' : Option (Int × Int)} (hg : w.grownBy w' (some r)) (hp : p' ≤ zs.length)
    (hb : w'.heap[r]? = some (.cells #[.slice a zs.length c, .int .i64 (p' : Int), .int .i64 (bdA bad'), .int .i64 (bdW bad')] 93 (0, 0))) (hn : ∀ f, bad' = some f → f.2 ≠ 0) : RD w' r a c zs p' bad' :=
  ⟨hb, hn, lies_grown h.lies (fun x hx => ⟨Nat.lt_trans (h.old x hx) (blk_lt h.blk), fun e => by cases e; exact absurd (h.old x hx) (Nat.lt_irrefl _)⟩) hg, h.old, h.cap, h.few, hp⟩
theorem RD.below (h : RD w r a c zs p bad) (hb : Below w.heap.size w w') : RD w' r a c zs p bad :=
  ⟨(hb.block r (blk_lt h.blk)).trans h.blk, h.nz, lies_grown h.lies (fun x hx => ⟨Nat.lt_trans (h.old x hx) (blk_lt h.blk), by simp⟩) (grown_of_below hb), h.old, h.cap, h.few, h.at_⟩
theorem refuseD_is (h : RD w r a c zs p bad) (x y : Int) (hy : y ≠ 0) : Calls Tryz.prog 43 #[.pointer (some ⟨r, 0, none⟩), .int .i64 x, .int .i64 y] w fun e w' => e = .returned (.tuple #[]) ∧ w.grownBy w' (some r) ∧ RD w' r a c zs p (firstR bad (x, y)) := by
  obtain ⟨c0, c1, c2, c3⟩ := four_readD h.blk
  have fz := fun j => frozen_of_row _ r j _ 93 h.blk
  cases hb : bad with
  | some f =>
    rw [hb] at h c2 c3
    have hnz := h.nz f rfl
    have hd : decide (f.2 = 0) = false := by simpa using hnz
    simp only [bdA, bdW, Option.getD_some] at c2 c3
    replace h := Hid.intro h
    clear hb
    obtain ⟨f1, f2⟩ := f
    dsimp only at c2 c3 hd hnz
    have hd2 : (f2 == 0) = false := by simpa using hnz
    go_enter Tryz.func43, Tryz.ntmps43
    go_wp2
    all_goals first | omega | skip
    go_end0
    exact ⟨rfl, World.grownBy.refl _ _, h.out⟩
  | none =>
    rw [hb] at h c2 c3
    simp only [bdA, bdW, Option.getD_none] at c2 c3
    obtain ⟨s1, s2⟩ := row_set h.blk 2 (.int .i64 x)
    obtain ⟨s3, s4⟩ := row_set s1 3 (.int .i64 y)
    have hfin : Hid (w.grownBy ((w.setCell ⟨r, 2, none⟩ (.int .i64 x)).setCell ⟨r, 3, none⟩ (.int .i64 y)) (some r) ∧ RD ((w.setCell ⟨r, 2, none⟩ (.int .i64 x)).setCell ⟨r, 3, none⟩ (.int .i64 y)) r a c zs p (firstR none (x, y))) := by
      have hg := grown_trans s2 s4
      refine ⟨hg, h.put hg h.at_ ?_ (fun f hf => by cases hf; exact hy)⟩
      exact s3
    clear h s1 s2 s3 s4 hb
    go_enter Tryz.func43, Tryz.ntmps43
    go_wp2
    all_goals first | omega | skip
    go_end0
    exact ⟨rfl, hfin.out⟩
def ndV (zs : List Int) (p wd : Nat) (bad : Option (Int × Int)) : Int := if bad.isSome then 0 else rdV zs p wd
def ndP (zs : List Int) (p wd : Nat) (bad : Option (Int × Int)) : Nat := if bad.isSome then p else rdP zs p wd
def ndB (zs : List Int) (p wd : Nat) (bad : Option (Int × Int)) : Option (Int × Int) := if bad.isSome then bad else rdB zs p wd bad
def tdS (zs : List Int) (p : Nat) (bad : Option (Int × Int)) : ByteArray := if bad.isSome then ByteArray.empty else txS zs p
def tdP (zs : List Int) (p : Nat) (bad : Option (Int × Int)) : Nat := if bad.isSome then p else txP zs p
def tdB (zs : List Int) (p : Nat) (bad : Option (Int × Int)) : Option (Int × Int) := if bad.isSome then bad else if O.getTE zs (p : Int) 65535 = 0 then none else some ((zs.length : Int), 10)
set_option maxHeartbeats 4000000 in
theorem numberD_is (h : RD w r a c zs p bad) (wd : Nat) (hw : wd = 1 ∨ wd = 2 ∨ wd = 4) : Calls Tryz.prog 42 #[.pointer (some ⟨r, 0, none⟩), .int .i64 (wd : Int)] w fun e w' => e = .returned (.int .u32 (ndV zs p wd bad)) ∧ w.grownBy w' (some r) ∧ RD w' r a c zs (ndP zs p wd bad) (ndB zs p wd bad) := by
  have hat := h.at_
  have hfw := h.few
  cases hb : bad with
  | some f =>
    rw [hb] at h
    obtain ⟨c0, c1, c2, c3⟩ := four_readD h.blk
    have hnz := h.nz f rfl
    simp only [bdA, bdW, Option.getD_some] at c2 c3
    obtain ⟨f1, f2⟩ := f
    dsimp only at c2 c3 hnz
    have hd2 : (f2 == 0) = false := by simpa using hnz
    replace h := Hid.intro h
    clear hb
    go_enter Tryz.func42, Tryz.ntmps42
    go_wp2
    all_goals first | omega | skip
    go_ret
    exact ⟨rfl, World.grownBy.refl _ _, h.out⟩
  | none =>
    rw [hb] at h
    have hiw : O.isW (wd : Int) = true := by rcases hw with rfl | rfl | rfl <;> rfl
    have hget := Hid.intro (fun n => O.refGet_any a c zs (p : Int) (wd : Int) (w.drewN n) (lies_grown h.lies (fun x hx => ⟨Nat.lt_trans (h.old x hx) (blk_lt h.blk), by simp⟩) (grown_of_below (below_drewN (Below.refl w.heap.size w) n))) (by unfold maxLen; omega) (by omega))
    obtain ⟨n0, hn0⟩ : ∃ n0, n0 = zs.length := ⟨_, rfl⟩
    have hblk := h.blk
    rw [← hn0] at hblk hget hat hfw
    obtain ⟨c0, c1, c2, c3⟩ := four_readD hblk
    simp only [bdA, bdW, Option.getD_none] at c2 c3
    by_cases hq : p + wd ≤ n0
    · have e1 : O.getE zs (p : Int) (wd : Int) = 0 := by unfold O.getE; rw [hiw, if_neg (by rw [← hn0]; simp; omega), if_neg (by rw [← hn0]; omega)]
      have e2 : O.getN zs (p : Int) (wd : Int) = ndV zs p wd none := by unfold O.getN ndV rdV; rw [if_pos e1, if_neg (by simp), if_pos (by omega)]; rfl
      rw [e1, e2] at hget
      have f1 := fun (n : Nat) => frozen_of_row (w.drewN n) r 1 _ 93 hblk
      have hfin : Hid (∀ n, w.grownBy ((w.drewN n).setCell ⟨r, 1, none⟩ (.int .i64 ((p : Int) + wd))) (some r) ∧ RD ((w.drewN n).setCell ⟨r, 1, none⟩ (.int .i64 ((p : Int) + wd))) r a c zs (ndP zs p wd none) (ndB zs p wd none)) := fun n => by
        obtain ⟨s1, s2⟩ := row_set (show (w.drewN n).heap[r]? = _ from h.blk) 1 (.int .i64 ((p : Int) + wd))
        have hg : w.grownBy ((w.drewN n).setCell ⟨r, 1, none⟩ (.int .i64 ((p : Int) + wd))) (some r) := ⟨s2.os, s2.tape, s2.output, s2.size, s2.block⟩
        refine ⟨hg, ?_⟩
        show RD _ r a c zs (rdP zs p wd) (rdB zs p wd none)
        unfold rdP rdB
        rw [if_pos (by omega), if_pos (by omega)]
        exact h.put hg (by omega) s1 (fun f hf => by cases hf)
      generalize ndV zs p wd none = V at *
      clear h hblk e1 e2 hiw hn0 hb
      go_enter Tryz.func42, Tryz.ntmps42
      go_wp2
      all_goals first | omega | skip
      go_quiet ((go_at_call 89; with_reducible exact Calls.quiet_of_same (hget.out _)))
      go_wp2
      all_goals first | omega | skip
      go_ret
      exact ⟨rfl, hfin.out _⟩
    · have e1 : O.getE zs (p : Int) (wd : Int) = 10 := by unfold O.getE; rw [hiw, if_neg (by rw [← hn0]; simp; omega), if_pos (by rw [← hn0]; omega)]
      have e2 : O.getN zs (p : Int) (wd : Int) = 0 := by unfold O.getN; rw [if_neg (by rw [e1]; decide)]
      have e3 : ndV zs p wd none = 0 := by unfold ndV rdV; rw [if_neg (by simp), if_neg (by omega)]
      rw [e1, e2] at hget
      rw [e3]
      have hrf : Hid (∀ n, Calls Tryz.prog 43 #[.pointer (some ⟨r, 0, none⟩), .int .i64 (n0 : Int), .int .i64 10] (w.drewN n) fun e w' => e = .returned (.tuple #[]) ∧ w.grownBy w' (some r) ∧ RD w' r a c zs (ndP zs p wd none) (ndB zs p wd none)) := fun n => by
        refine (refuseD_is (h.below (below_drewN (Below.refl w.heap.size w) n)) (n0 : Int) 10 (by decide)).mono ?_
        rintro e w' ⟨rfl, hg, hR⟩
        refine ⟨rfl, ⟨hg.os, hg.tape, hg.output, hg.size, hg.block⟩, ?_⟩
        show RD _ r a c zs (rdP zs p wd) (rdB zs p wd none)
        unfold rdP rdB
        rw [if_neg (by omega), if_neg (by omega), ← hn0]
        exact hR
      clear h hblk e1 e2 e3 hiw hn0 hb
      go_enter Tryz.func42, Tryz.ntmps42
      go_wp2
      all_goals first | omega | skip
      go_quiet ((go_at_call 89; with_reducible exact Calls.quiet_of_same (hget.out _)))
      go_wp2_with (go_at_call 43; (with_reducible refine (hrf.out _).mono ?_); rintro e w2 ⟨rfl, hg2, hR2⟩; replace hg2 := Hid.intro hg2; replace hR2 := Hid.intro hR2)
      all_goals first | omega | skip
      go_ret
      exact ⟨rfl, hg2.out, hR2.out⟩
set_option maxHeartbeats 4000000 in
theorem textD_is (h : RD w r a c zs p bad) : Calls Tryz.prog 44 #[.pointer (some ⟨r, 0, none⟩)] w fun e w' => e = .returned (.string (tdS zs p bad)) ∧ w.grownBy w' (some r) ∧ RD w' r a c zs (tdP zs p bad) (tdB zs p bad) := by
  have hat := h.at_
  have hfw := h.few
  cases hb : bad with
  | some f =>
    rw [hb] at h
    obtain ⟨c0, c1, c2, c3⟩ := four_readD h.blk
    have hnz := h.nz f rfl
    simp only [bdA, bdW, Option.getD_some] at c2 c3
    obtain ⟨f1, f2⟩ := f
    dsimp only at c2 c3 hnz
    have hd2 : (f2 == 0) = false := by simpa using hnz
    replace h := Hid.intro h
    clear hb
    go_enter Tryz.func44, Tryz.ntmps44
    go_wp2
    all_goals first | omega | skip
    go_ret
    exact ⟨rfl, World.grownBy.refl _ _, h.out⟩
  | none =>
    rw [hb] at h
    have hN := getN_bd h.lies.1 (p : Int)
    have hget := Hid.intro (fun n => O.refGetText_any a c zs (p : Int) 65535 (w.drewN n) (lies_grown h.lies (fun x hx => ⟨Nat.lt_trans (h.old x hx) (blk_lt h.blk), by simp⟩) (grown_of_below (below_drewN (Below.refl w.heap.size w) n))) (by unfold maxLen; omega) h.cap (by omega))
    obtain ⟨n0, hn0⟩ : ∃ n0, n0 = zs.length := ⟨_, rfl⟩
    have hblk := h.blk
    rw [← hn0] at hblk hget hat hfw
    obtain ⟨c0, c1, c2, c3⟩ := four_readD hblk
    simp only [bdA, bdW, Option.getD_none] at c2 c3
    by_cases hq : O.getTE zs (p : Int) 65535 = 0
    · have e1 : O.getTo zs (p : Int) 65535 = ((txP zs p : Nat) : Int) := by unfold O.getTo txP; rw [if_pos hq, if_pos hq]; omega
      have hle : txP zs p ≤ zs.length := by
        unfold txP
        rw [if_pos hq]
        unfold O.getTE at hq
        split at hq
        · split at hq
          · cases hq
          · split at hq
            · cases hq
            · omega
        · contradiction
      rw [hq, e1] at hget
      have f1 := fun (n : Nat) => frozen_of_row (w.drewN n) r 1 _ 93 hblk
      have hfin : Hid (∀ n, w.grownBy ((w.drewN n).setCell ⟨r, 1, none⟩ (.int .i64 ((txP zs p : Nat) : Int))) (some r) ∧ RD ((w.drewN n).setCell ⟨r, 1, none⟩ (.int .i64 ((txP zs p : Nat) : Int))) r a c zs (tdP zs p none) (tdB zs p none)) := fun n => by
        obtain ⟨s1, s2⟩ := row_set (show (w.drewN n).heap[r]? = _ from h.blk) 1 (.int .i64 ((txP zs p : Nat) : Int))
        have hg : w.grownBy ((w.drewN n).setCell ⟨r, 1, none⟩ (.int .i64 ((txP zs p : Nat) : Int))) (some r) := ⟨s2.os, s2.tape, s2.output, s2.size, s2.block⟩
        refine ⟨hg, ?_⟩
        show RD _ r a c zs (txP zs p) (if O.getTE zs (p : Int) 65535 = 0 then none else some ((zs.length : Int), 10))
        rw [if_pos hq]
        exact h.put hg hle s1 (fun f hf => by cases hf)
      have hS : Hid (O.getTS zs (p : Int) 65535 = tdS zs p none) := by show _ = _; unfold tdS txS; rw [if_neg (by simp)]
      rw [hS.out] at hget
      generalize tdS zs p none = S at *
      generalize txP zs p = P at *
      clear h hblk e1 hn0 hq hN hle hS hb
      go_enter Tryz.func44, Tryz.ntmps44
      go_wp2
      all_goals first | omega | skip
      go_quiet ((go_at_call 90; with_reducible exact Calls.quiet_of_same (hget.out _)))
      go_wp2
      all_goals first | omega | skip
      go_ret
      exact ⟨rfl, hfin.out _⟩
    · obtain ⟨te, hte⟩ : ∃ te, te = O.getTE zs (p : Int) 65535 := ⟨_, rfl⟩
      have hq2 : (te == 0) = false := by rw [hte]; simpa using hq
      have hS : tdS zs p none = ByteArray.empty := by unfold tdS txS O.getTS; rw [if_neg (by simp), if_neg hq]
      have hS2 : O.getTS zs (p : Int) 65535 = ByteArray.empty := by unfold O.getTS; rw [if_neg hq]
      have hrf : Hid (∀ n, Calls Tryz.prog 43 #[.pointer (some ⟨r, 0, none⟩), .int .i64 (n0 : Int), .int .i64 10] (w.drewN n) fun e w' => e = .returned (.tuple #[]) ∧ w.grownBy w' (some r) ∧ RD w' r a c zs (tdP zs p none) (tdB zs p none)) := fun n => by
        refine (refuseD_is (h.below (below_drewN (Below.refl w.heap.size w) n)) (n0 : Int) 10 (by decide)).mono ?_
        rintro e w' ⟨rfl, hg, hR⟩
        refine ⟨rfl, ⟨hg.os, hg.tape, hg.output, hg.size, hg.block⟩, ?_⟩
        show RD _ r a c zs (txP zs p) (if O.getTE zs (p : Int) 65535 = 0 then none else some ((zs.length : Int), 10))
        unfold txP
        rw [if_neg hq, if_neg hq, ← hn0]
        exact hR
      rw [← hte, hS2] at hget
      rw [hS]
      generalize O.getTo zs (p : Int) 65535 = tx at *
      clear h hblk hS hS2 hn0 hb hN hq hte
      go_enter Tryz.func44, Tryz.ntmps44
      go_wp2
      all_goals first | omega | skip
      go_quiet ((go_at_call 90; with_reducible exact Calls.quiet_of_same (hget.out _)))
      go_wp2_with (go_at_call 43; (with_reducible refine (hrf.out _).mono ?_); rintro e w2 ⟨rfl, hg2, hR2⟩; replace hg2 := Hid.intro hg2; replace hR2 := Hid.intro hR2)
      all_goals first | omega | skip
      go_ret
      exact ⟨rfl, hg2.out, hR2.out⟩
end
end Go.Proofs.YtmndccbeddaphaaGreatDoor
