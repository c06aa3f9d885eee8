/- object's reader: a unit. -/
import Derived.Test.YtmndccbeddaphaaGreatDoorOrd3
namespace Go.Proofs.YtmndccbeddaphaaGreatDoor
open Go.ChangeShapes Go.WideShapes Go.ChangeAt Go.RowKit
set_option linter.unusedVariables false
set_option linter.unusedSimpArgs false
set_option maxRecDepth 100000

theorem rdItLoop_le (zs : List Int) (sec : Int) : (k : Nat) → (acc : List Itm) → (g : INm) → (p : Nat) → (b : Rfu) → (rdItLoop zs sec k acc g p b).1.length ≤ acc.length + k
  | 0, acc, g, p, b => Nat.le_refl _
  | k + 1, acc, g, p, b => by
    rw [rdItLoop]
    split
    · simp
    · have := rdItLoop_le zs sec k (acc ++ [(itR zs p b).1]) (itG (itR zs p b).1 sec g) (itR zs p b).2.1 (itB (itR zs p b).1 sec g p (itR zs p b).2.2)
      rw [List.length_append, List.length_singleton] at this
      omega
theorem rdItems_le {zs : List Int} (hz : O.AreBytes zs) (sec most : Int) (hm : 0 ≤ most) (g : INm) (p : Nat) (b : Rfu) : ((rdItems zs sec most g p b).1.length : Int) ≤ most := by
  unfold rdItems
  have hb := rdV_bd hz p
  by_cases h : rdV zs p 2 > most
  · obtain ⟨k, hk⟩ : ∃ k, (rdV zs p 2).toNat = k + 1 := ⟨(rdV zs p 2).toNat - 1, by omega⟩
    rw [hk, rdItLoop, manyB, if_pos h, if_pos (by unfold firstR; cases rdB zs p 2 b <;> rfl)]
    simpa using hm
  · have := rdItLoop_le zs sec (rdV zs p 2).toNat [] g (rdP zs p 2) (manyB (rdV zs p 2) most p (rdB zs p 2 b))
    simp at this
    omega

abbrev uZ : Array Value := #[.slice none 0 0, .slice none 0 0, .slice none 0 0, .slice none 0 0]
section
variable {w w' w1 : World} {r : Nat} {a : Option Addr} {c : Nat} {zs : List Int} {p : Nat} {bad : Option (Int × Int)} {rp : Option Nat} {mv : Value} {last : List UInt8} {b n : Nat} {g : List (List UInt8)} {w2 w3 : World} {A : Array Value}

/-- a reader, a unit in the making at block w.heap.size + 1, the answer's cells ahead of it -/
structure US (w : World) (r : Nat) (a : Option Addr) (c : Nat) (zs : List Int) (b n : Nat) (g : INm) (last : List UInt8) (p : Nat) (bad : Rfu) (A : Array Value) (w2 : World) : Prop where
  rs : ∃ rp, RS w2 r a c zs p bad rp (.map (some b)) last
  set : SetIs w2 b n g
  tab : Tab w2
  row : w2.heap[w.heap.size + 1]? = some (.cells A 30 (0, 0))
  res : w2.heap[w.heap.size]? = some (.cells uZ 30 (0, 0))
  gr : G2 w w2 r b
  lo : 3 ≤ r ∧ 3 ≤ b ∧ r < w.heap.size ∧ b < w.heap.size ∧ b ≠ r
theorem US.los (h : US w r a c zs b n g last p bad A w2) : 3 ≤ r ∧ 3 ≤ b ∧ r < w2.heap.size ∧ b < w2.heap.size ∧ b ≠ r := by
  obtain ⟨t0, t1, t2, t3, t4⟩ := h.lo
  have := h.gr.size
  exact ⟨t0, t1, by omega, by omega, t4⟩
theorem US.step (h : US w r a c zs b n g last p bad A w2) {n' : Nat} {g' : INm} {last' : List UInt8} {p' : Nat} {bad' : Rfu} (hE : IE w2 r a c zs b n' g' last' p' bad' w3) : US w r a c zs b n' g' last' p' bad' A w3 := by
  obtain ⟨t0, t1, t2, t3, t4⟩ := h.lo
  exact ⟨hE.rs, hE.set, hE.tab, (hE.gr.block _ (blk_lt h.row) (by omega) (by omega)).trans h.row, (hE.gr.block _ (blk_lt h.res) (by omega) (by omega)).trans h.res, h.gr.trans hE.gr, h.lo⟩
theorem US.num (h : US w r a c zs b n g last p bad A w2) {last' : List UInt8} {p' : Nat} {bad' : Rfu} (hg : w2.grownBy w3 (some r)) (hR : ∃ rp, RS w3 r a c zs p' bad' rp (.map (some b)) last') : US w r a c zs b n g last' p' bad' A w3 :=
  h.step ⟨hR, G2.of hg (fun j e => .inl (Option.some.inj e).symm), h.set.blk (hg.block b h.set.lt (fun e => h.lo.2.2.2.2 (Option.some.inj e))), h.tab.grown hg h.lo.1⟩
theorem US.put (h : US w r a c zs b n g last p bad A w2) (j : Nat) (y : Value) : US w r a c zs b n g last p bad (A.setIfInBounds j y) (w2.setCell ⟨w.heap.size + 1, j, none⟩ y) ∧ w2.grownBy (w2.setCell ⟨w.heap.size + 1, j, none⟩ y) (some (w.heap.size + 1)) := by
  obtain ⟨t0, t1, t2, t3, t4⟩ := h.lo
  obtain ⟨s1, k1⟩ := row_set h.row j y
  obtain ⟨rp, hR⟩ := h.rs
  exact ⟨⟨⟨rp, hR.far (by omega) h.row (by decide) k1⟩, h.set.blk (k1.block b h.set.lt (fun e => by have := Option.some.inj e; omega)), h.tab.grown k1 (by omega), s1, (k1.block _ (blk_lt h.res) (fun e => by have := Option.some.inj e; omega)).trans h.res, ⟨k1.os.trans h.gr.os, k1.tape.trans h.gr.tape, k1.output.trans h.gr.output, Nat.le_trans h.gr.size k1.size, fun i hi h1 h2 => (k1.block i (Nat.lt_of_lt_of_le hi h.gr.size) (fun e => by have := Option.some.inj e; omega)).trans (h.gr.block i hi h1 h2)⟩, h.lo⟩, k1⟩
theorem US.start (h : RS w r a c zs p bad rp (.map (some b)) last) (hS : SetIs w b n g) (hT : Tab w) (hlo : 3 ≤ r ∧ 3 ≤ b ∧ r < w.heap.size ∧ b < w.heap.size ∧ b ≠ r) : US w r a c zs b n g last p bad uZ ((w.alloc (.cells uZ 30)).alloc (.cells uZ 30)) := by
  have h1 := below_alloc w (.cells uZ 30)
  have h2 := below_alloc (w.alloc (.cells uZ 30)) (.cells uZ 30)
  have e1 := heap_alloc_new w (.cells uZ 30)
  have e2 := heap_alloc_new (w.alloc (.cells uZ 30)) (.cells uZ 30)
  rw [show (w.alloc (.cells uZ 30)).heap.size = w.heap.size + 1 by simp] at e2
  exact ⟨⟨rp, (h.below h1).below h2⟩, hS.blk ((h2.block b (Nat.lt_of_lt_of_le hS.lt h1.size)).trans (h1.block b hS.lt)), (hT.below h1 hT.size).below h2 (hT.below h1 hT.size).size, e2, (h2.block _ (blk_lt e1)).trans e1, (G2.of (grown_of_below h1) (fun j e => by cases e)).trans (.of (grown_of_below h2) (fun j e => by cases e)), hlo⟩
theorem ItOwn.g2 {lo : Nat} {v : Value} {L : List (Itm × Value)} (h : ItOwn lo w2 v L) (hg : G2 w2 w3 r b) (h1 : r < lo) (h2 : b < lo) : ItOwn lo w3 v L := ⟨own_G2 h.row hg h1 h2, fun q hq => own_G2 (h.each q hq) hg h1 h2⟩
theorem ItOwn.low {lo k : Nat} {v : Value} {L : List (Itm × Value)} (h : ItOwn lo w2 v L) (hg : w2.grownBy w3 (some k)) (hk : k < lo) : ItOwn lo w3 v L := ⟨own_low h.row hg hk, fun q hq => own_low (h.each q hq) hg hk⟩
theorem EqOw.g2 {lo : Nat} {v : Value} {L : List (Eqv × Value)} (h : EqOw lo w2 v L) (hg : G2 w2 w3 r b) (h1 : r < lo) (h2 : b < lo) : EqOw lo w3 v L := ⟨own_G2 h.row hg h1 h2, fun q hq => own_G2 (h.each q hq) hg h1 h2⟩
theorem EqOw.low {lo k : Nat} {v : Value} {L : List (Eqv × Value)} (h : EqOw lo w2 v L) (hg : w2.grownBy w3 (some k)) (hk : k < lo) : EqOw lo w3 v L := ⟨own_low h.row hg hk, fun q hq => own_low (h.each q hq) hg hk⟩
end
end Go.Proofs.YtmndccbeddaphaaGreatDoor
