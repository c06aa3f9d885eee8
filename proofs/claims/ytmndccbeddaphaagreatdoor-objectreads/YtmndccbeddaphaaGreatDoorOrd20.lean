/- object's Read. -/
import Derived.Test.YtmndccbeddaphaaGreatDoorOrd15
import Derived.Test.YtmndccbeddaphaaGreatDoorUGl
import Derived.BigQuiet
/- object's reader: a list of globals. -/
namespace Go.Proofs.YtmndccbeddaphaaGreatDoor
open Go.ChangeShapes Go.WideShapes Go.ChangeAt Go.RowKit Go.Sort
set_option linter.unusedVariables false
set_option linter.unusedSimpArgs false
set_option maxRecDepth 100000
def rowSt (l : INm) : List Value := l.map fun s => .string (str s)
def rdGlLoop (zs : List Int) (g : INm) : Nat → INm → List UInt8 → Nat → Rfu → INm × List UInt8 × Nat × Rfu
  | 0, acc, la, p, b => (acc, la, p, b)
  | k + 1, acc, la, p, b => if b.isSome then ([], la, p, b) else rdGlLoop zs g k (acc ++ [txL zs p]) (txL zs p) (txP zs p) (glB (txL zs p) la g p (txB zs p b))
def rdGlobs (zs : List Int) (g : INm) (la : List UInt8) (p : Nat) (b : Rfu) : INm × List UInt8 × Nat × Rfu := rdGlLoop zs g (rdV zs p 2).toNat [] la (rdP zs p 2) (rdB zs p 2 b)
section
variable {w w' w1 : World} {r : Nat} {a : Option Addr} {c : Nat} {zs : List Int} {p : Nat} {bad : Option (Int × Int)} {rp : Option Nat} {mv : Value} {last : List UInt8} {b n : Nat} {g : List (List UInt8)} {w2 : World}
structure GL (w : World) (r : Nat) (a : Option Addr) (c : Nat) (zs : List Int) (b n : Nat) (g : INm) (R : INm × List UInt8 × Nat × Rfu) (k : Nat) (L : INm) (la : List UInt8) (p : Nat) (bad : Rfu) (v : Value) (wr : World) : Prop where
  rs : ∃ rp, RS wr r a c zs p bad rp (.map (some b)) la
  own : wr.ownsRow w.heap.size 9 1 v L.length (rowSt L)
  gr : w.grownBy wr (some r)
  set : SetIs w b n g
  res : rdGlLoop zs g k L la p bad = R
  lo : r < w.heap.size ∧ b ≠ r
theorem GL.sets {R : INm × List UInt8 × Nat × Rfu} {k : Nat} {L : INm} {v : Value} {wr : World} (h : GL w r a c zs b n g R k L last p bad v wr) : SetIs wr b n g := h.set.kept h.gr (fun e => h.lo.2 (Option.some.inj e))
theorem GL.mid {R : INm × List UInt8 × Nat × Rfu} {k : Nat} {L : INm} {v : Value} {wr : World} (h : GL w r a c zs b n g R k L last p bad v wr) (hg : wr.grownBy w2 (some r)) (o : Obj) : (w2.alloc o).ownsRow w.heap.size 9 1 v L.length (rowSt L) := own_keptB (own_low h.own hg h.lo.1) (below_alloc w2 o)
theorem GL.next {R : INm × List UInt8 × Nat × Rfu} {k : Nat} {L : INm} {v v' : Value} {wr w4 : World} (h : GL w r a c zs b n g R (k + 1) L last p none v wr) (hg : wr.grownBy w2 (some r)) (hR : ∃ rp, RS w2 r a c zs (txP zs p) (glB (txL zs p) last g p (txB zs p none)) rp (.map (some b)) (txL zs p)) (o : Obj)
    (ho : w4.ownsRow w.heap.size 9 1 v' (L.length + 1) (rowSt L ++ [.string (str (txL zs p))])) (hg4 : (w2.alloc o).grownBy w4 v.ownBlock) : GL w r a c zs b n g R k (L ++ [txL zs p]) (txL zs p) (txP zs p) (glB (txL zs p) last g p (txB zs p none)) v' w4 := by
  have hm := h.mid hg o
  obtain ⟨rp, hR⟩ := hR
  refine ⟨⟨rp, (hR.below (below_alloc w2 o)).off hm h.lo.1 (by decide) hg4⟩, ?_, ?_, h.set, ?_, h.lo⟩
  · have e : rowSt (L ++ [txL zs p]) = rowSt L ++ [.string (str (txL zs p))] := by simp [rowSt]
    rw [e, List.length_append]
    exact ho
  · exact grown_new (grown_trans h.gr (grown_trans hg (World.grownBy_alloc w2 o (some r)))) hg4 (fun g hgg => (hm.lt g hgg).1)
  · have := h.res
    rw [rdGlLoop] at this
    simpa using this
def GlsOut (w : World) (r : Nat) (a : Option Addr) (c : Nat) (zs : List Int) (b : Nat) (R : INm × List UInt8 × Nat × Rfu) (e : Ending) (w' : World) : Prop :=
  ∃ v, e = .returned v ∧ w.grownBy w' (some r) ∧ w'.ownsRow w.heap.size 9 1 v R.1.length (rowSt R.1) ∧ ∃ rp, RS w' r a c zs R.2.2.1 R.2.2.2 rp (.map (some b)) R.2.1
set_option maxHeartbeats 16000000 in
theorem globs_is (h : RS w r a c zs p bad rp (.map (some b)) last) (hS : SetIs w b n g) (hbr : b ≠ r) : Calls Tryz.prog 80 #[.pointer (some ⟨r, 0, none⟩), .int .i64 65535, .func (.func 81) #[.pointer (some ⟨r, 0, none⟩)] #[]] w fun e w' => GlsOut w r a c zs b (rdGlobs zs g last p bad) e w' := by
  obtain ⟨i1, hi1, hy0, hy1, hy2⟩ := info_parts info9
  have hbd := rdV_bd h.lies.1 p
  have hlt := blk_lt h.blk
  obtain ⟨_, c1, _, _, _⟩ := five_read h.blk
  have h113 := Hid.intro (num2_is h)
  have hR : Hid (rdGlLoop zs g (rdV zs p 2).toNat [] last (rdP zs p 2) (rdB zs p 2 bad) = rdGlobs zs g last p bad) := rfl
  generalize rdGlobs zs g last p bad = R at *
  obtain ⟨n0, hn0⟩ : ∃ n0 : Nat, rdV zs p 2 = (n0 : Int) := ⟨(rdV zs p 2).toNat, by omega⟩
  rw [hn0] at h113 hR hbd
  have hn1 : n0 ≤ 65535 := by omega
  rw [Int.toNat_natCast] at hR
  clear hn0 hbd
  have hst : Hid (∀ w1 (rp1 : Option Nat), w.grownBy w1 (some r) → RS w1 r a c zs (rdP zs p 2) (rdB zs p 2 bad) rp1 (.map (some b)) last → GL w r a c zs b n g R n0 [] last (rdP zs p 2) (rdB zs p 2 bad) (.slice none 0 0) w1) := fun w1 rp1 g1 hR1 => ⟨⟨rp1, hR1⟩, World.ownsRow_nil _ _ _ _, g1, hS, hR.out, hlt, hbr⟩
  clear h hlt hS hR
  go_enter Tryz.func80, Tryz.ntmps80
  go_wp2_with (go_at_call 113; (with_reducible refine (h113.out).mono ?_); rintro e w1 ⟨rfl, g1, rp1, hR1⟩; have hL0 := Hid.intro (hst.out w1 rp1 g1 hR1); clear g1 hR1)
  all_goals first | omega | skip
  clear h113 hst c1
  go_loopw [9, 24] (fun v9 v24 wr => ∃ (j : Nat) (L : INm) (la : List UInt8) (p' : Nat) (b' : Rfu) (a9 : Option Addr) (l9 c9 : Nat), j ≤ n0 ∧ v24 = .int .i64 (j : Int) ∧ v9 = .slice a9 l9 c9 ∧ l9 ≤ j ∧ Hid (l9 = L.length) ∧ Hid (GL w r a c zs b n g R (n0 - j) L la p' b' (.slice a9 L.length c9) wr)) (fun v9 v24 _ => n0 - (intOf v24).toNat)
  case atStart => exact ⟨0, [], _, _, _, none, 0, 0, by omega, rfl, rfl, by omega, rfl, hL0⟩
  case round =>
    obtain ⟨j, L, la, p', b', a9, l9, c9, hj, rfl, rfl, hl9, hl, hL⟩ := hrel
    clear hL0
    by_cases hjn : j < n0
    · have hk : Hid (n0 - j = (n0 - (j + 1)) + 1) := by show _ = _; omega
      obtain ⟨rp', hrs'⟩ := hL.out.rs
      have h32 := Hid.intro (refused_is hrs')
      cases b' with
      | some f =>
        replace hrs' := Hid.intro hrs'
        go_wp2_with (go_at_call 32; (with_reducible refine (h32.out).mono ?_); rintro e w2 ⟨rfl, hw2⟩; subst w2)
        all_goals first | omega | skip
        go_ret
        have hres : R = ([], la, p', some f) := by
          rw [← hL.out.res, hk.out, rdGlLoop]
          rfl
        rw [hres]
        exact ⟨_, rfl, hL.out.gr, World.ownsRow_nil _ _ _ _, rp', hrs'.out⟩
      | none =>
        have h81 := Hid.intro (global_is hrs' hL.out.sets hL.out.lo.2)
        unfold GlbOut at h81
        have hnx : Hid (∀ w2 v' w4, wr.grownBy w2 (some r) → (∃ rp, RS w2 r a c zs (txP zs p') (glB (txL zs p') la g p' (txB zs p' none)) rp (.map (some b)) (txL zs p')) → w4.ownsRow w.heap.size 9 1 v' (l9 + 1) (rowSt L ++ [.string (str (txL zs p'))]) → (w2.alloc (.cells #[.string (str (txL zs p'))] 9)).grownBy w4 (Value.slice a9 l9 c9).ownBlock → GL w r a c zs b n g R (n0 - (j + 1)) (L ++ [txL zs p']) (txL zs p') (txP zs p') (glB (txL zs p') la g p' (txB zs p' none)) v' w4) := fun w2 v' w4 h1 h2 h3 h4 => by
          have hh := hL.out
          rw [hk.out] at hh
          rw [hl.out] at h3 h4
          exact hh.next h1 h2 _ h3 h4
        have hmid : Hid (∀ w2, wr.grownBy w2 (some r) → (w2.alloc (.cells #[.string (str (txL zs p'))] 9)).ownsRow w.heap.size 9 1 (.slice a9 l9 c9) l9 (rowSt L) ∧ w.heap.size ≤ (w2.alloc (.cells #[.string (str (txL zs p'))] 9)).heap.size) := fun w2 h1 => by
          have := hL.out.mid h1 (.cells #[.string (str (txL zs p'))] 9)
          rw [← hl.out] at this
          exact ⟨this, by have := hL.out.gr.size; have := h1.size; simp; omega⟩
        have hll : Hid (l9 + 1 = (L ++ [txL zs p']).length) := by show _ = _; rw [List.length_append, hl.out]; rfl
        generalize glB (txL zs p') la g p' (txB zs p' none) = B3 at *
        generalize txL zs p' = S at *
        generalize txP zs p' = P3 at *
        clear hL hl hk hrs'
        go_wp2_with (first
          | (go_at_call 32; (with_reducible refine (h32.out).mono ?_); rintro e w2 ⟨rfl, hw2⟩; subst w2)
          | (go_at_call 81; (with_reducible refine (h81.out).mono ?_); rintro e w3 ⟨rfl, g3, hR3⟩; obtain ⟨hm1, hm2⟩ := hmid.out w3 g3; replace g3 := Hid.intro g3; replace hR3 := Hid.intro hR3; replace hm1 := Hid.intro hm1)
          | (at_builtin; go_must (refine wpList_app rfl (.tmp 28) (.tmp 31) 28 rfl w.heap.size 9 i1 _ 1 16 Tryz.underlying28 hi1 hy0 hy1 hy2 rfl (by decide) (.slice a9 l9 c9) l9 (rowSt L) rfl hm1.out (.slice (some ⟨w3.heap.size, 0, none⟩) 1 1) 1 [.string (str S)] rfl (.inr ⟨_, _, rfl, cells_new w3 #[.string (str S)] 9⟩) rfl (by simp [Value.oneCell']) (by unfold maxLen; omega) (by omega) hm2 ?_; intro v' w4 ho4 hg4 hw4; have hn4 := Hid.intro (hnx.out w3 v' w4 g3.out hR3.out ho4 hg4); obtain ⟨a4, c4, rfl⟩ := own_slice ho4; clear ho4 hg4 hw4)))
        all_goals first | omega | skip
        go_roundw
        case rel => exact ⟨j + 1, _, _, _, _, a4, l9 + 1, c4, by omega, by go_num, rfl, by omega, hll, by rw [← hll.out]; exact hn4⟩
        case measure => simp [intOf]; omega
    · obtain rfl : j = n0 := by omega
      go_wp2_with fail
      all_goals first | omega | skip
      go_ret
      have hres : R = (L, la, p', b') := by
        rw [← hL.out.res, Nat.sub_self, rdGlLoop]
      rw [hres, hl.out]
      obtain ⟨rp', hrs'⟩ := hL.out.rs
      exact ⟨_, rfl, hL.out.gr, hL.out.own, rp', hrs'⟩
end
end Go.Proofs.YtmndccbeddaphaaGreatDoor
/- object's reader: a unit. -/
namespace Go.Proofs.YtmndccbeddaphaaGreatDoor
open Go.ChangeShapes Go.WideShapes Go.ChangeAt Go.RowKit
set_option linter.unusedVariables false
set_option linter.unusedSimpArgs false
set_option maxRecDepth 100000
theorem rdItLoop_le (zs : List Int) (sec : Int) : (k : Nat) → (acc : List Itm) → (g : INm) → (p : Nat) → (b : Rfu) → (rdItLoop zs sec k acc g p b).1.length ≤ acc.length + k
  | 0, acc, g, p, b => Nat.le_refl _
  | k + 1, acc, g, p, b => by
    rw [rdItLoop]
    split
    · simp
    · have := rdItLoop_le zs sec k (acc ++ [(itR zs p b).1]) (itG (itR zs p b).1 sec g) (itR zs p b).2.1 (itB (itR zs p b).1 sec g p (itR zs p b).2.2)
      rw [List.length_append, List.length_singleton] at this
      omega
theorem rdItems_le {zs : List Int} (hz : O.AreBytes zs) (sec most : Int) (hm : 0 ≤ most) (g : INm) (p : Nat) (b : Rfu) : ((rdItems zs sec most g p b).1.length : Int) ≤ most := by
  unfold rdItems
  have hb := rdV_bd hz p
  by_cases h : rdV zs p 2 > most
  · obtain ⟨k, hk⟩ : ∃ k, (rdV zs p 2).toNat = k + 1 := ⟨(rdV zs p 2).toNat - 1, by omega⟩
    rw [hk, rdItLoop, manyB, if_pos h, if_pos (by unfold firstR; cases rdB zs p 2 b <;> rfl)]
    simpa using hm
  · have := rdItLoop_le zs sec (rdV zs p 2).toNat [] g (rdP zs p 2) (manyB (rdV zs p 2) most p (rdB zs p 2 b))
    simp at this
    omega
abbrev uZ : Array Value := #[.slice none 0 0, .slice none 0 0, .slice none 0 0, .slice none 0 0]
section
variable {w w' w1 : World} {r : Nat} {a : Option Addr} {c : Nat} {zs : List Int} {p : Nat} {bad : Option (Int × Int)} {rp : Option Nat} {mv : Value} {last : List UInt8} {b n : Nat} {g : List (List UInt8)} {w2 w3 : World} {A : Array Value}
structure US (w : World) (r : Nat) (a : Option Addr) (c : Nat) (zs : List Int) (b n : Nat) (g : INm) (last : List UInt8) (p : Nat) (bad : Rfu) (A : Array Value) (w2 : World) : Prop where
  rs : ∃ rp, RS w2 r a c zs p bad rp (.map (some b)) last
  set : SetIs w2 b n g
  tab : Tab w2
  row : w2.heap[w.heap.size + 1]? = some (.cells A 30 (0, 0))
  res : w2.heap[w.heap.size]? = some (.cells uZ 30 (0, 0))
  gr : G2 w w2 r b
  lo : 3 ≤ r ∧ 3 ≤ b ∧ r < w.heap.size ∧ b < w.heap.size ∧ b ≠ r
theorem US.los (h : US w r a c zs b n g last p bad A w2) : 3 ≤ r ∧ 3 ≤ b ∧ r < w2.heap.size ∧ b < w2.heap.size ∧ b ≠ r := by
  obtain ⟨t0, t1, t2, t3, t4⟩ := h.lo
  have := h.gr.size
  exact ⟨t0, t1, by omega, by omega, t4⟩
theorem US.step (h : US w r a c zs b n g last p bad A w2) {n' : Nat} {g' : INm} {last' : List UInt8} {p' : Nat} {bad' : Rfu} (hE : IE w2 r a c zs b n' g' last' p' bad' w3) : US w r a c zs b n' g' last' p' bad' A w3 := by
  obtain ⟨t0, t1, t2, t3, t4⟩ := h.lo
  exact ⟨hE.rs, hE.set, hE.tab, (hE.gr.block _ (blk_lt h.row) (by omega) (by omega)).trans h.row, (hE.gr.block _ (blk_lt h.res) (by omega) (by omega)).trans h.res, h.gr.trans hE.gr, h.lo⟩
theorem US.num (h : US w r a c zs b n g last p bad A w2) {last' : List UInt8} {p' : Nat} {bad' : Rfu} (hg : w2.grownBy w3 (some r)) (hR : ∃ rp, RS w3 r a c zs p' bad' rp (.map (some b)) last') : US w r a c zs b n g last' p' bad' A w3 :=
  h.step ⟨hR, G2.of hg (fun j e => .inl (Option.some.inj e).symm), h.set.blk (hg.block b h.set.lt (fun e => h.lo.2.2.2.2 (Option.some.inj e))), h.tab.grown hg h.lo.1⟩
theorem US.put (h : US w r a c zs b n g last p bad A w2) (j : Nat) (y : Value) : US w r a c zs b n g last p bad (A.setIfInBounds j y) (w2.setCell ⟨w.heap.size + 1, j, none⟩ y) ∧ w2.grownBy (w2.setCell ⟨w.heap.size + 1, j, none⟩ y) (some (w.heap.size + 1)) := by
  obtain ⟨t0, t1, t2, t3, t4⟩ := h.lo
  obtain ⟨s1, k1⟩ := row_set h.row j y
  obtain ⟨rp, hR⟩ := h.rs
  exact ⟨⟨⟨rp, hR.far (by omega) h.row (by decide) k1⟩, h.set.blk (k1.block b h.set.lt (fun e => by have := Option.some.inj e; omega)), h.tab.grown k1 (by omega), s1, (k1.block _ (blk_lt h.res) (fun e => by have := Option.some.inj e; omega)).trans h.res, ⟨k1.os.trans h.gr.os, k1.tape.trans h.gr.tape, k1.output.trans h.gr.output, Nat.le_trans h.gr.size k1.size, fun i hi h1 h2 => (k1.block i (Nat.lt_of_lt_of_le hi h.gr.size) (fun e => by have := Option.some.inj e; omega)).trans (h.gr.block i hi h1 h2)⟩, h.lo⟩, k1⟩
theorem US.start (h : RS w r a c zs p bad rp (.map (some b)) last) (hS : SetIs w b n g) (hT : Tab w) (hlo : 3 ≤ r ∧ 3 ≤ b ∧ r < w.heap.size ∧ b < w.heap.size ∧ b ≠ r) : US w r a c zs b n g last p bad uZ ((w.alloc (.cells uZ 30)).alloc (.cells uZ 30)) := by
  have h1 := below_alloc w (.cells uZ 30)
  have h2 := below_alloc (w.alloc (.cells uZ 30)) (.cells uZ 30)
  have e1 := heap_alloc_new w (.cells uZ 30)
  have e2 := heap_alloc_new (w.alloc (.cells uZ 30)) (.cells uZ 30)
  rw [show (w.alloc (.cells uZ 30)).heap.size = w.heap.size + 1 by simp] at e2
  exact ⟨⟨rp, (h.below h1).below h2⟩, hS.blk ((h2.block b (Nat.lt_of_lt_of_le hS.lt h1.size)).trans (h1.block b hS.lt)), (hT.below h1 hT.size).below h2 (hT.below h1 hT.size).size, e2, (h2.block _ (blk_lt e1)).trans e1, (G2.of (grown_of_below h1) (fun j e => by cases e)).trans (.of (grown_of_below h2) (fun j e => by cases e)), hlo⟩
theorem ItOwn.g2 {lo : Nat} {v : Value} {L : List (Itm × Value)} (h : ItOwn lo w2 v L) (hg : G2 w2 w3 r b) (h1 : r < lo) (h2 : b < lo) : ItOwn lo w3 v L := ⟨own_G2 h.row hg h1 h2, fun q hq => own_G2 (h.each q hq) hg h1 h2⟩
theorem ItOwn.low {lo k : Nat} {v : Value} {L : List (Itm × Value)} (h : ItOwn lo w2 v L) (hg : w2.grownBy w3 (some k)) (hk : k < lo) : ItOwn lo w3 v L := ⟨own_low h.row hg hk, fun q hq => own_low (h.each q hq) hg hk⟩
theorem EqOw.g2 {lo : Nat} {v : Value} {L : List (Eqv × Value)} (h : EqOw lo w2 v L) (hg : G2 w2 w3 r b) (h1 : r < lo) (h2 : b < lo) : EqOw lo w3 v L := ⟨own_G2 h.row hg h1 h2, fun q hq => own_G2 (h.each q hq) hg h1 h2⟩
theorem EqOw.low {lo k : Nat} {v : Value} {L : List (Eqv × Value)} (h : EqOw lo w2 v L) (hg : w2.grownBy w3 (some k)) (hk : k < lo) : EqOw lo w3 v L := ⟨own_low h.row hg hk, fun q hq => own_low (h.each q hq) hg hk⟩
end
end Go.Proofs.YtmndccbeddaphaaGreatDoor
/- object's reader: a unit, the walk. -/
namespace Go.Proofs.YtmndccbeddaphaaGreatDoor
open Go.ChangeShapes Go.WideShapes Go.ChangeAt Go.RowKit
set_option linter.unusedVariables false
set_option linter.unusedSimpArgs false
set_option maxRecDepth 100000
section
variable {w w' w1 : World} {r : Nat} {a : Option Addr} {c : Nat} {zs : List Int} {p : Nat} {bad : Option (Int × Int)} {rp : Option Nat} {mv : Value} {last : List UInt8} {b n : Nat} {g : List (List UInt8)} {w2 w3 : World} {A : Array Value}
theorem US.textL (h : US w r a c zs b n g last p bad A w2) (hn : n ≤ 2000000) (ha : ∀ x, a = some x → x.block ≠ b) : Calls Tryz.prog 75 #[.pointer (some ⟨r, 0, none⟩), .int .i64 8192, .func (.func 76) #[.pointer (some ⟨r, 0, none⟩)] #[]] w2 fun e w' => ItsOut w2 r a c zs b n last (rdItems zs 0 8192 g p bad) e w' := by
  obtain ⟨rp, hR⟩ := h.rs
  exact textItems_is hR h.set hn h.tab h.los ha 8192 (by decide)
theorem US.dataL (h : US w r a c zs b n g last p bad A w2) (hn : n ≤ 2000000) (ha : ∀ x, a = some x → x.block ≠ b) (most : Int) (hm : 0 ≤ most ∧ most ≤ 8192) : Calls Tryz.prog 75 #[.pointer (some ⟨r, 0, none⟩), .int .i64 most, .func (.func 77) #[.pointer (some ⟨r, 0, none⟩)] #[]] w2 fun e w' => ItsOut w2 r a c zs b n last (rdItems zs 1 most g p bad) e w' := by
  obtain ⟨rp, hR⟩ := h.rs
  exact dataItems_is hR h.set hn h.tab h.los ha most hm
theorem US.equsL (h : US w r a c zs b n g last p bad A w2) (hn : n ≤ 2000000) (ha : ∀ x, a = some x → x.block ≠ b) : Calls Tryz.prog 78 #[.pointer (some ⟨r, 0, none⟩), .int .i64 8192, .func (.func 79) #[.pointer (some ⟨r, 0, none⟩)] #[]] w2 fun e w' => EqsOut w2 r a c zs b n last (rdEqus zs 8192 g p bad) e w' := by
  obtain ⟨rp, hR⟩ := h.rs
  exact equs_is hR h.set hn h.tab h.los ha 8192 (by decide)
theorem US.globsL (h : US w r a c zs b n g last p bad A w2) : Calls Tryz.prog 80 #[.pointer (some ⟨r, 0, none⟩), .int .i64 65535, .func (.func 81) #[.pointer (some ⟨r, 0, none⟩)] #[]] w2 fun e w' => GlsOut w2 r a c zs b (rdGlobs zs g last p bad) e w' := by
  obtain ⟨rp, hR⟩ := h.rs
  exact globs_is hR h.set h.lo.2.2.2.2
theorem US.below (h : US w r a c zs b n g last p bad A w2) (hb : Below w2.heap.size w2 w3) : US w r a c zs b n g last p bad A w3 := by
  obtain ⟨rp, hR⟩ := h.rs
  exact h.step ⟨⟨rp, hR.below hb⟩, G2.of (grown_of_below hb) (fun j e => by cases e), h.set.blk (hb.block b h.set.lt), h.tab.below hb h.tab.size⟩
theorem ItOwn.weaken {lo B : Nat} {v : Value} {L : List (Itm × Value)} (h : ItOwn lo w2 v L) (hB : B ≤ lo) : ItOwn B w2 v L := ⟨own_weaken h.row hB, fun q hq => own_weaken (h.each q hq) hB⟩
theorem EqOw.weaken {lo B : Nat} {v : Value} {L : List (Eqv × Value)} (h : EqOw lo w2 v L) (hB : B ≤ lo) : EqOw B w2 v L := ⟨own_weaken h.row hB, fun q hq => own_weaken (h.each q hq) hB⟩
abbrev RdI := List Itm × INm × Nat × Rfu
def rD (zs : List Int) (t : RdI) : RdI := rdItems zs 1 (8192 - (t.1.length : Int)) t.2.1 t.2.2.1 t.2.2.2
def rE (zs : List Int) (t : RdI) : List Eqv × INm × Nat × Rfu := rdEqus zs 8192 t.2.1 t.2.2.1 t.2.2.2
def rG (zs : List Int) (last : List UInt8) (t : List Eqv × INm × Nat × Rfu) : INm × List UInt8 × Nat × Rfu := rdGlobs zs t.2.1 last t.2.2.1 t.2.2.2
def tailB (zs : List Int) (p : Nat) (b : Rfu) : Rfu := if p < zs.length then firstR b ((p : Int), 14) else b
theorem own_apart {w w4 : World} {lo : Nat} {T T' : TypeId} {sz sz' : Nat} {v v4 : Value} {n n' : Nat} {xs xs' : List Value} (h : w.ownsRow lo T sz v n xs) (h4 : w4.ownsRow w.heap.size T' sz' v4 n' xs') : ∀ g, v.ownBlock = some g → v4.ownBlock ≠ some g := by
  intro g hg hg4
  rcases h.2 with ⟨rfl, _⟩ | ⟨g1, cap, cur, rfl, _, hb, _⟩
  · cases hg
  · cases hg
    rcases h4.2 with ⟨rfl, _⟩ | ⟨g2, cap2, cur2, rfl, hlo, _⟩
    · cases hg4
    · cases hg4
      have := blk_lt hb
      omega
structure UL (lo : Nat) (w : World) (vt vd ve vg : Value) (LT LD : List (Itm × Value)) (LE : List (Eqv × Value)) (LG : INm) : Prop where
  t : ItOwn lo w vt LT
  d : ItOwn lo w vd LD
  e : EqOw lo w ve LE
  g : w.ownsRow lo 9 1 vg LG.length (rowSt LG)
  td : ∀ g, vt.ownBlock = some g → vd.ownBlock ≠ some g
theorem UL.low {lo k : Nat} {vt vd ve vg : Value} {LT LD : List (Itm × Value)} {LE : List (Eqv × Value)} {LG : INm} (h : UL lo w2 vt vd ve vg LT LD LE LG) (hg : w2.grownBy w3 (some k)) (hk : k < lo) : UL lo w3 vt vd ve vg LT LD LE LG := ⟨h.t.low hg hk, h.d.low hg hk, h.e.low hg hk, own_low h.g hg hk, h.td⟩
theorem UL.g2 {lo : Nat} {vt vd ve vg : Value} {LT LD : List (Itm × Value)} {LE : List (Eqv × Value)} {LG : INm} (h : UL lo w2 vt vd ve vg LT LD LE LG) (hg : G2 w2 w3 r b) (h1 : r < lo) (h2 : b < lo) : UL lo w3 vt vd ve vg LT LD LE LG := ⟨h.t.g2 hg h1 h2, h.d.g2 hg h1 h2, h.e.g2 hg h1 h2, own_G2 h.g hg h1 h2, h.td⟩
theorem UL.below {lo : Nat} {vt vd ve vg : Value} {LT LD : List (Itm × Value)} {LE : List (Eqv × Value)} {LG : INm} (h : UL lo w2 vt vd ve vg LT LD LE LG) (hb : Below w2.heap.size w2 w3) : UL lo w3 vt vd ve vg LT LD LE LG := ⟨⟨own_keptB h.t.row hb, fun q hq => own_keptB (h.t.each q hq) hb⟩, ⟨own_keptB h.d.row hb, fun q hq => own_keptB (h.d.each q hq) hb⟩, ⟨own_keptB h.e.row hb, fun q hq => own_keptB (h.e.each q hq) hb⟩, own_keptB h.g hb, h.td⟩
theorem UL.start (lo : Nat) (w : World) : UL lo w (.slice none 0 0) (.slice none 0 0) (.slice none 0 0) (.slice none 0 0) [] [] [] [] := ⟨⟨World.ownsRow_nil _ _ _ _, fun q hq => by cases hq⟩, ⟨World.ownsRow_nil _ _ _ _, fun q hq => by cases hq⟩, ⟨World.ownsRow_nil _ _ _ _, fun q hq => by cases hq⟩, World.ownsRow_nil _ _ _ _, fun g h => by cases h⟩
theorem US.end {v0 v1 v2 v3 : Value} {LT LD : List (Itm × Value)} {LE : List (Eqv × Value)} {LG : INm} (h : US w r a c zs b n g last p bad A w2) (hO : UL (w.heap.size + 2) w2 v0 v1 v2 v3 LT LD LE LG) (y0 y1 y2 y3 : Value) : IE w r a c zs b n g last p bad ((((w2.setCell ⟨w.heap.size, 0, none⟩ y0).setCell ⟨w.heap.size, 1, none⟩ y1).setCell ⟨w.heap.size, 2, none⟩ y2).setCell ⟨w.heap.size, 3, none⟩ y3) ∧ UL (w.heap.size + 2) ((((w2.setCell ⟨w.heap.size, 0, none⟩ y0).setCell ⟨w.heap.size, 1, none⟩ y1).setCell ⟨w.heap.size, 2, none⟩ y2).setCell ⟨w.heap.size, 3, none⟩ y3) v0 v1 v2 v3 LT LD LE LG ∧ ((((w2.setCell ⟨w.heap.size, 0, none⟩ y0).setCell ⟨w.heap.size, 1, none⟩ y1).setCell ⟨w.heap.size, 2, none⟩ y2).setCell ⟨w.heap.size, 3, none⟩ y3).heap[w.heap.size]? = some (.cells #[y0, y1, y2, y3] 30 (0, 0)) := by
  obtain ⟨t0, t1, t2, t3, t4⟩ := h.lo
  obtain ⟨s0, k0⟩ := row_set h.res 0 y0
  obtain ⟨s1, k1⟩ := row_set s0 1 y1
  obtain ⟨s2, k2⟩ := row_set s1 2 y2
  obtain ⟨s3, k3⟩ := row_set s2 3 y3
  have k := grown_trans k0 (grown_trans k1 (grown_trans k2 k3))
  obtain ⟨rp, hR⟩ := h.rs
  exact ⟨⟨⟨rp, hR.far t2 h.res (by decide) k⟩, ⟨k.os.trans h.gr.os, k.tape.trans h.gr.tape, k.output.trans h.gr.output, Nat.le_trans h.gr.size k.size, fun j hj h1 h2 => (k.block j (Nat.lt_of_lt_of_le hj h.gr.size) (fun e => by have := Option.some.inj e; omega)).trans (h.gr.block j hj h1 h2)⟩, h.set.blk (k.block b h.set.lt (fun e => by have := Option.some.inj e; omega)), h.tab.grown k (by omega)⟩, hO.low k (by omega), s3⟩
def UniOut (w : World) (r : Nat) (a : Option Addr) (c : Nat) (zs : List Int) (b n : Nat) (g : INm) (last : List UInt8) (e : Ending) (w' : World) : Prop :=
  ∃ p1 b1 vt vd ve vg LT LD LE LG, HdI zs p1 b1 ∧ (b1 = none → p1 = 5) ∧ e = .returned (.agg #[vt, vd, ve, vg]) ∧ UL (w.heap.size + 2) w' vt vd ve vg LT LD LE LG ∧ ∃ T D E G, T = rdItems zs 0 8192 g p1 b1 ∧ D = rD zs T ∧ E = rE zs D ∧ G = rG zs last E ∧ LT.map (·.1) = T.1 ∧ LD.map (·.1) = D.1 ∧ LE.map (·.1) = E.1 ∧ LG = G.1 ∧ IE w r a c zs b (n + 196605) E.2.1 G.2.1 G.2.2.1 (tailB zs G.2.2.1 G.2.2.2) w'
set_option maxHeartbeats 16000000 in
theorem unit_is (h : RS w r a c zs 0 none none (.map (some b)) last) (hS : SetIs w b n g) (hn : n ≤ 100000) (hT : Tab w) (hlo : 3 ≤ r ∧ 3 ≤ b ∧ r < w.heap.size ∧ b < w.heap.size ∧ b ≠ r) (ha : ∀ x, a = some x → x.block ≠ b) :
    Calls Tryz.prog 31 #[.pointer (some ⟨r, 0, none⟩)] w fun e w' => UniOut w r a c zs b n g last e w' := by
  have hz := h.lies.1
  have hU0 := Hid.intro (US.start h hS hT hlo)
  have h74 := Hid.intro (head_is ((h.below (below_alloc w (.cells uZ 30))).below (below_alloc _ (.cells uZ 30))))
  have hln : Hid (∀ g p b, ((rdItems zs 0 8192 g p b).1.length : Int) ≤ 8192) := fun g p b => rdItems_le hz 0 8192 (by decide) g p b
  have haH := Hid.intro ha
  have hr1 : r < w.heap.size + 2 := by omega
  have hb1 : b < w.heap.size + 2 := by omega
  clear h hS hT hz ha hlo
  go_enter Tryz.func31, Tryz.ntmps31
  go_wp2_with (first
    | (go_at_call 74; (with_reducible refine (h74.out).mono ?_); rintro e w1 ⟨rfl, g1, p1, b1, rp1, hR1, hI1, hp1⟩; have hU1 := Hid.intro (hU0.out.num g1 ⟨rp1, hR1⟩); replace hI1 := Hid.intro hI1; replace hp1 := Hid.intro hp1; obtain ⟨T, hT0⟩ : ∃ T, T = rdItems zs 0 8192 g p1 b1 := ⟨_, rfl⟩; replace hT0 := Hid.intro hT0; clear h74 hU0 g1 hR1)
    | (go_at_call 75; (with_reducible refine (hU1.out.textL (by omega) haH.out).mono ?_); rintro e w2 ⟨v2, L2, rfl, hO2, hm2, hE2⟩; rw [← hT0.out] at hm2 hE2; obtain ⟨a2, c2, rfl⟩ := own_slice hO2.row; have hl2 : (L2.length : Int) ≤ 8192 := by { have := hln.out g p1 b1; rw [← hT0.out, ← hm2, List.length_map] at this; exact this }; have hU2 := Hid.intro (hU1.out.step hE2); have d2 := (four_read hU2.out.row).1; have f2 := fun j => frozen_of_row w2 (w.heap.size + 1) j _ 30 hU2.out.row; have hU3 := Hid.intro (hU2.out.put 0 (.slice a2 L2.length c2)).1; have d3 := (four_read hU3.out.row).1; replace hO2 := Hid.intro ((hO2.weaken (show w.heap.size + 2 ≤ _ from blk_lt hU1.out.row)).low (hU2.out.put 0 (.slice a2 L2.length c2)).2 (by omega)); replace hm2 := Hid.intro hm2; obtain ⟨D, hD0⟩ : ∃ D, D = rD zs T := ⟨_, rfl⟩; have hD1 : Hid (D = rdItems zs 1 (8192 - (L2.length : Int)) T.2.1 T.2.2.1 T.2.2.2) := (by { rw [hD0, rD, ← hm2.out, List.length_map]; rfl }); replace hD0 := Hid.intro hD0; generalize hq2 : L2.length = l2 at *; replace hq2 := Hid.intro hq2; clear hU1 hE2)
    | (go_at_call 75; (with_reducible refine (hU3.out.dataL (by omega) haH.out (8192 - (l2 : Int)) (by omega)).mono ?_); rintro e w4 ⟨v4, L4, rfl, hO4, hm4, hE4⟩; rw [← hD1.out] at hm4 hE4; obtain ⟨a4, c4, rfl⟩ := own_slice hO4.row; have hU4 := Hid.intro (hU3.out.step hE4); have d4 := (four_read hU4.out.row).2.1; have f4 := fun j => frozen_of_row w4 (w.heap.size + 1) j _ 30 hU4.out.row; have hU5 := Hid.intro (hU4.out.put 1 (.slice a4 L4.length c4)).1; have hTD := Hid.intro (own_apart hO2.out.row hO4.row); replace hO4 := Hid.intro ((hO4.weaken (show w.heap.size + 2 ≤ _ from blk_lt hU3.out.row)).low (hU4.out.put 1 (.slice a4 L4.length c4)).2 (by omega)); replace hO2 := Hid.intro ((hO2.out.g2 hE4.gr hr1 hb1).low (hU4.out.put 1 (.slice a4 L4.length c4)).2 (by omega)); replace hm4 := Hid.intro hm4; obtain ⟨E, hE0⟩ : ∃ E, E = rE zs D := ⟨_, rfl⟩; replace hE0 := Hid.intro hE0; clear hU3 hE4 hU2 d2 f2 d3)
    | (go_at_call 78; (with_reducible refine (hU5.out.equsL (by omega) haH.out).mono ?_); rintro e w6 ⟨v6, L6, rfl, hO6, hm6, hE6⟩; rw [show rdEqus zs 8192 D.2.1 D.2.2.1 D.2.2.2 = E from hE0.out.symm] at hm6 hE6; obtain ⟨a6, c6, rfl⟩ := own_slice hO6.row; have hU6 := Hid.intro (hU5.out.step hE6); have d6 := (four_read hU6.out.row).2.2.1; have f6 := fun j => frozen_of_row w6 (w.heap.size + 1) j _ 30 hU6.out.row; have hU7 := Hid.intro (hU6.out.put 2 (.slice a6 L6.length c6)).1; replace hO6 := Hid.intro ((hO6.weaken (show w.heap.size + 2 ≤ _ from blk_lt hU5.out.row)).low (hU6.out.put 2 (.slice a6 L6.length c6)).2 (by omega)); replace hO4 := Hid.intro ((hO4.out.g2 hE6.gr hr1 hb1).low (hU6.out.put 2 (.slice a6 L6.length c6)).2 (by omega)); replace hO2 := Hid.intro ((hO2.out.g2 hE6.gr hr1 hb1).low (hU6.out.put 2 (.slice a6 L6.length c6)).2 (by omega)); replace hm6 := Hid.intro hm6; clear hU5 hE6 hU4 d4 f4)
    | (go_at_call 80; (with_reducible refine (hU7.out.globsL).mono ?_); rintro e w8 ⟨v8, rfl, g8, hO8, hR8⟩; rw [show rdGlobs zs E.2.1 last E.2.2.1 E.2.2.2 = rG zs last E from rfl] at hO8 hR8; generalize hRG : rG zs last E = RG at hO8 hR8; obtain ⟨G8, la8, P8, B8⟩ := RG; dsimp only at hO8 hR8; replace hRG := Hid.intro hRG; obtain ⟨a8, c8, rfl⟩ := own_slice hO8; have hU8 := Hid.intro (hU7.out.num g8 hR8); have d8 := (four_read hU8.out.row).2.2.2; have f8 := fun j => frozen_of_row w8 (w.heap.size + 1) j _ 30 hU8.out.row; have hU9 := Hid.intro (hU8.out.put 3 (.slice a8 G8.length c8)).1; have hu9 := Hid.intro (four_read hU9.out.row); have hO := Hid.intro (UL.low (UL.mk (hO2.out.low g8 hr1) (hO4.out.low g8 hr1) (EqOw.low hO6.out g8 hr1) (own_weaken hO8 (show w.heap.size + 2 ≤ _ from blk_lt hU7.out.row)) hTD.out) (hU8.out.put 3 (.slice a8 G8.length c8)).2 (by omega)); generalize hq8 : G8.length = l8 at *; replace hq8 := Hid.intro hq8; clear hU7 g8 hR8 hO8 hU6 d6 f6 hO2 hO4 hO6))
  all_goals first | omega | skip
  obtain ⟨rp9, hR9⟩ := hU9.out.rs
  obtain ⟨j0, j1, _, _, _⟩ := five_read hR9.blk
  have hat : P8 ≤ zs.length + 1 := by rcases hR9.at_ with h1 | ⟨_, h1⟩ <;> omega
  have hfw := hR9.few
  replace hR9 := Hid.intro hR9
  have hfin : Hid (∀ e w', e = .returned (.agg #[.slice a2 l2 c2, .slice a4 L4.length c4, .slice a6 L6.length c6, .slice a8 l8 c8]) → UL (w.heap.size + 2) w' (.slice a2 l2 c2) (.slice a4 L4.length c4) (.slice a6 L6.length c6) (.slice a8 l8 c8) L2 L4 L6 G8 → IE w r a c zs b (n + 65535 + 65535 + 65535) E.2.1 la8 P8 (tailB zs P8 B8) w' → UniOut w r a c zs b n g last e w') := fun e w' h1 h2 h3 => ⟨p1, b1, _, _, _, _, L2, L4, L6, G8, hI1.out, hp1.out, h1, h2, T, D, E, _, hT0.out, hD0.out, hE0.out, hRG.out.symm, hm2.out, hm4.out, hm6.out, rfl, h3⟩
  obtain ⟨n0, hn0⟩ : ∃ n0, n0 = zs.length := ⟨_, rfl⟩
  have htb : Hid (∀ B, tailB zs P8 B = if P8 < n0 then firstR B ((P8 : Int), 14) else B) := fun B => by rw [hn0]; rfl
  rw [← hn0] at j0 hat hfw
  clear hn0 hU8 d8 f8
  generalize hw9 : w8.setCell ⟨w.heap.size + 1, 3, none⟩ (.slice a8 l8 c8) = w9 at *
  clear hw9 hI1 hp1 hT0 hD0 hE0 hRG hm2 hm4 hm6 hD1 hln
  obtain ⟨y0, y1, y2, y3⟩ := hu9.out
  obtain ⟨t0, t1, t2, t3⟩ := four_read hU9.out.res
  have tf := fun j => frozen_of_row w9 w.heap.size j _ 30 hU9.out.res
  by_cases hend : P8 < n0
  · have he : decide ((P8 : Int) < (n0 : Int)) = true := by simp; omega
    have hfin' : Hid (∀ e w', _ → _ → IE w r a c zs b (n + 65535 + 65535 + 65535) E.2.1 la8 P8 (firstR B8 ((P8 : Int), 14)) w' → UniOut w r a c zs b n g last e w') := fun e w' h1 h2 h3 => hfin.out e w' h1 h2 (by rw [htb.out, if_pos hend]; exact h3)
    clear hfin htb
    go_quiet (fail)
    go_wp2_with (go_at_call 82; (with_reducible refine (refuse_is (hR9.out.below (below_drewN (Below.refl w9.heap.size w9) _)) _ _).mono ?_); rintro e w10 ⟨rfl, g10, rp10, hR10⟩; have hU10 := Hid.intro ((hU9.out.below (below_drewN (Below.refl w9.heap.size w9) _)).num g10 ⟨rp10, hR10⟩); have hO10 := Hid.intro ((hO.out.below (below_drewN (Below.refl w9.heap.size w9) _)).low g10 hr1); clear y0 y1 y2 y3 t0 t1 t2 t3 tf; obtain ⟨y0, y1, y2, y3⟩ := four_read hU10.out.row; obtain ⟨t0, t1, t2, t3⟩ := four_read hU10.out.res; have tf := fun j => frozen_of_row w10 w.heap.size j _ 30 hU10.out.res; clear g10 hR10)
    all_goals first | omega | skip
    obtain ⟨e1, e2, e3⟩ := hU10.out.end hO10.out (.slice a2 l2 c2) (.slice a4 L4.length c4) (.slice a6 L6.length c6) (.slice a8 l8 c8)
    obtain ⟨q0, q1, q2, q3⟩ := four_read e3
    refine bodyPost_ret (by simp [results, Tryz.results31, go_sem, q0, q1, q2, q3]; try rfl) rfl ?_
    exact hfin'.out _ _ rfl e2 e1
  · have he : decide ((P8 : Int) < (n0 : Int)) = false := by simp; omega
    have hfin' : Hid (∀ e w', _ → _ → IE w r a c zs b (n + 65535 + 65535 + 65535) E.2.1 la8 P8 B8 w' → UniOut w r a c zs b n g last e w') := fun e w' h1 h2 h3 => hfin.out e w' h1 h2 (by rw [htb.out, if_neg hend]; exact h3)
    clear hfin htb
    go_quiet (fail)
    go_wp2
    all_goals first | omega | skip
    obtain ⟨e1, e2, e3⟩ := (hU9.out.below (below_drewN (Below.refl w9.heap.size w9) nq)).end (hO.out.below (below_drewN (Below.refl w9.heap.size w9) nq)) (.slice a2 l2 c2) (.slice a4 L4.length c4) (.slice a6 L6.length c6) (.slice a8 l8 c8)
    obtain ⟨q0, q1, q2, q3⟩ := four_read e3
    refine bodyPost_ret (by simp [results, Tryz.results31, go_sem, q0, q1, q2, q3]; try rfl) rfl ?_
    exact hfin'.out _ _ rfl e2 e1
end
end Go.Proofs.YtmndccbeddaphaaGreatDoor
/- object's Read, of bytes that are too many. -/
namespace Go.Proofs.YtmndccbeddaphaaGreatDoor
open Go.ChangeShapes Go.WideShapes Go.ChangeAt Go.RowKit
set_option linter.unusedVariables false
set_option linter.unusedSimpArgs false
set_option maxRecDepth 100000
set_option maxHeartbeats 16000000 in
theorem read_long (w : World) (a : Option Addr) (n c : Nat) (hn : 1048576 < n) (hm : n ≤ maxLen) : Calls Tryz.prog 10 #[.slice a n c] w fun e w' => ∃ q, e = .returned (.tuple #[.agg #[.slice none 0 0, .slice none 0 0, .slice none 0 0, .slice none 0 0], .iface 66 (.pointer (some ⟨q, 0, none⟩))]) ∧ w'.heap[q]? = some (.cells #[.int .i64 0, .int .i64 3] 68 (0, 0)) ∧ Below w.heap.size w w' := by
  unfold maxLen at hm
  go_enter Tryz.func10, Tryz.ntmps10
  go_wp2
  all_goals first | omega | skip
  have h1 := heap_alloc_new (w.alloc (.cells uZ 30)) (.cells #[.int .i64 0, .int .i64 3] 68)
  rw [show (w.alloc (.cells uZ 30)).heap.size = w.heap.size + 1 by simp] at h1
  have b1 := below_alloc w (.cells uZ 30)
  have e0 := (below_alloc (w.alloc (.cells uZ 30)) (.cells #[.int .i64 0, .int .i64 3] 68)).block w.heap.size (by simp)
  rw [heap_alloc_new w (.cells uZ 30)] at e0
  obtain ⟨q0, q1, q2, q3⟩ := four_read e0
  refine bodyPost_ret (by simp [results, Tryz.results10, go_sem, q0, q1, q2, q3]; try rfl) rfl ?_
  exact ⟨w.heap.size + 1, rfl, h1, b1.alloc b1.size _⟩
end Go.Proofs.YtmndccbeddaphaaGreatDoor
namespace Go.Proofs.YtmndccbeddaphaaGreatDoor
open Go.ChangeShapes Go.WideShapes Go.ChangeAt Go.RowKit Go.Maps
set_option linter.unusedVariables false
set_option linter.unusedSimpArgs false
set_option maxRecDepth 100000
def hdLoop (zs : List Int) : Nat → Nat → Nat × Rfu
  | 0, i => (i, none)
  | k + 1, i => if zs[i]? = hdL[i]? then hdLoop zs k (i + 1) else (i + 1, some ((i : Int), 15))
def headF (zs : List Int) : Nat × Rfu := hdLoop zs 5 0
theorem hdLoop_to (zs : List Int) (k : Nat) : ∀ (m i : Nat), m ≤ k → (∀ j, i ≤ j → j < i + m → zs[j]? = hdL[j]?) → hdLoop zs k i = hdLoop zs (k - m) (i + m) := by
  induction k with
  | zero => intro m i hm _; cases Nat.le_zero.1 hm; rfl
  | succ k ih =>
    intro m i hm h
    cases m with
    | zero => rfl
    | succ m =>
      rw [hdLoop, if_pos (h i (by omega) (by omega)), ih m (i + 1) (by omega) (fun j h1 h2 => h j (by omega) (by omega))]
      congr 1 <;> omega
theorem hd_at {zs : List Int} {m : Nat} (h : zs.take m = hdL.take m) (j : Nat) (hj : j < m) : zs[j]? = hdL[j]? := by
  have := congrArg (fun l => l[j]?) h
  simpa [List.getElem?_take, hj] using this
theorem headF_is {zs : List Int} {p : Nat} {b : Rfu} (h : HdI zs p b) (h5 : b = none → p = 5) : p = (headF zs).1 ∧ b = (headF zs).2 := by
  rcases h with ⟨rfl, h1, h2, h3⟩ | ⟨m, h1, h2, rfl, rfl, h3, h4⟩
  · obtain rfl := h5 rfl
    unfold headF
    rw [hdLoop_to zs 5 5 0 (by omega) (fun j _ hj => hd_at h3 j (by omega))]
    exact ⟨rfl, rfl⟩
  · unfold headF
    rw [hdLoop_to zs 5 m 0 (by omega) (fun j _ hj => hd_at h3 j (by omega))]
    obtain ⟨k, hk⟩ : ∃ k, 5 - m = k + 1 := ⟨4 - m, by omega⟩
    rw [hk, Nat.zero_add, hdLoop, if_neg h4]
    exact ⟨rfl, rfl⟩
def rdT (zs : List Int) : RdI := rdItems zs 0 8192 [] (headF zs).1 (headF zs).2
def rdD (zs : List Int) : RdI := rD zs (rdT zs)
def rdE (zs : List Int) : List Eqv × INm × Nat × Rfu := rE zs (rdD zs)
def rdG (zs : List Int) : INm × List UInt8 × Nat × Rfu := rG zs [] (rdE zs)
def rdBad (zs : List Int) : Rfu := tailB zs (rdG zs).2.2.1 (rdG zs).2.2.2
def rdU (zs : List Int) : UVal := ⟨(rdT zs).1, (rdD zs).1, (rdE zs).1, (rdG zs).1⟩
def ReOut (w : World) (zs : List Int) (e : Ending) (w' : World) : Prop := Below w.heap.size w w' ∧
  ((∃ f q, rdBad zs = some f ∧ e = .returned (.tuple #[.agg uZ, .iface 66 (.pointer (some ⟨q, 0, none⟩))]) ∧ w'.heap[q]? = some (.cells #[.int .i64 f.1, .int .i64 f.2] 68 (0, 0)))
  ∨ (rdBad zs = none ∧ ∃ vt vd ve vg LT LD LE LG, e = .returned (.tuple #[.agg #[vt, vd, ve, vg], .nilIface]) ∧ UL w.heap.size w' vt vd ve vg LT LD LE LG ∧ LT.map (·.1) = (rdU zs).text ∧ LD.map (·.1) = (rdU zs).data ∧ LE.map (·.1) = (rdU zs).equs ∧ LG = (rdU zs).globs))
theorem set_new (w : World) : SetIs (w.alloc (.map #[] 0)) w.heap.size 0 [] := ⟨.map [], World.ownsMap_made w Tryz.prog 9 unitE, isMap_empty, fun s => by simp [has]⟩
section
variable {w : World} {a : Option Addr} {c : Nat} {zs : List Int}
abbrev rdr0 (a : Option Addr) (n c b : Nat) : Array Value := #[.slice a n c, .int .i64 0, .pointer none, .map (some b), .string ⟨#[]⟩]
abbrev wR (w : World) (a : Option Addr) (n c : Nat) : World := ((w.alloc (.cells uZ 30)).alloc (.map #[] 0)).alloc (.cells (rdr0 a n c (w.heap.size + 1)) 71)
theorem rs_new (hl : O.Lies w a zs) (ha : ∀ x, a = some x → x.block < w.heap.size) (hn : zs.length ≤ 1048576) (hc : zs.length ≤ c) (hT : Tab w) : RS (wR w a zs.length c) (w.heap.size + 2) a c zs 0 none none (.map (some (w.heap.size + 1))) [] ∧ SetIs (wR w a zs.length c) (w.heap.size + 1) 0 [] ∧ Tab (wR w a zs.length c) ∧ (wR w a zs.length c).heap[w.heap.size]? = some (.cells uZ 30 (0, 0)) ∧ Below w.heap.size w (wR w a zs.length c) := by
  have b1 := below_alloc w (.cells uZ 30)
  have b2 := below_alloc (w.alloc (.cells uZ 30)) (.map #[] 0)
  have b3 := below_alloc ((w.alloc (.cells uZ 30)).alloc (.map #[] 0)) (.cells (rdr0 a zs.length c (w.heap.size + 1)) 71)
  have e1 := heap_alloc_new w (.cells uZ 30)
  have e3 := heap_alloc_new ((w.alloc (.cells uZ 30)).alloc (.map #[] 0)) (.cells (rdr0 a zs.length c (w.heap.size + 1)) 71)
  have s1 : (w.alloc (.cells uZ 30)).heap.size = w.heap.size + 1 := by simp
  have s2 : ((w.alloc (.cells uZ 30)).alloc (.map #[] 0)).heap.size = w.heap.size + 2 := by simp
  rw [s2] at e3
  have b12 := b1.trans (b2.mono b1.size)
  have b := b12.trans (b3.mono b12.size)
  have hS := set_new (w.alloc (.cells uZ 30))
  rw [s1] at hS
  refine ⟨⟨e3, lies_grown hl (fun x hx => ⟨ha x hx, by simp⟩) (grown_of_below b), fun x hx => by have := ha x hx; omega, hc, by omega, .inl (Nat.zero_le _), rfl⟩, hS.blk (b3.block _ hS.lt), hT.below b hT.size, ?_, b⟩
  rw [b3.block _ (by rw [s2]; omega), b2.block _ (by rw [s1]; omega)]
  exact e1
set_option maxHeartbeats 16000000 in
theorem read_is (hl : O.Lies w a zs) (ha : ∀ x, a = some x → x.block < w.heap.size) (hn : zs.length ≤ 1048576) (hc : zs.length ≤ c) (hT : Tab w) : Calls Tryz.prog 10 #[.slice a zs.length c] w fun e w' => ReOut w zs e w' := by
  obtain ⟨h1, h2, h3, h4, h5⟩ := rs_new hl ha hn hc hT
  have hTs := hT.size
  have hsz : (wR w a zs.length c).heap.size = w.heap.size + 3 := by simp
  have h31 := unit_is h1 h2 (by omega) h3 ⟨by omega, by omega, by omega, by omega, by omega⟩ (fun x hx => by have := ha x hx; omega)
  have hU : Hid (Calls Tryz.prog 31 #[.pointer (some ⟨w.heap.size + 2, 0, none⟩)] (wR w a zs.length c) fun e w' => ∃ vt vd ve vg LT LD LE LG, e = .returned (.agg #[vt, vd, ve, vg]) ∧ UL (w.heap.size + 1) w' vt vd ve vg LT LD LE LG ∧ LT.map (·.1) = (rdU zs).text ∧ LD.map (·.1) = (rdU zs).data ∧ LE.map (·.1) = (rdU zs).equs ∧ LG = (rdU zs).globs ∧ w'.heap[w.heap.size]? = some (.cells uZ 30 (0, 0)) ∧ Below w.heap.size w w' ∧ ∃ p rp mv la, RS w' (w.heap.size + 2) a c zs p (rdBad zs) rp mv la) := by
    refine h31.mono ?_
    rintro e w2 ⟨p1, b1, vt, vd, ve, vg, LT, LD, LE, LG, hI, h5', rfl, hO, T, D, E, G, rfl, rfl, rfl, rfl, m1, m2, m3, m4, hE⟩
    obtain ⟨hp, hb⟩ := headF_is hI h5'
    subst hp hb
    obtain ⟨rp, hR⟩ := hE.rs
    refine ⟨vt, vd, ve, vg, LT, LD, LE, LG, rfl, ⟨hO.t.weaken (by omega), hO.d.weaken (by omega), hO.e.weaken (by omega), own_weaken hO.g (by omega), hO.td⟩, m1, m2, m3, m4, ?_, ⟨hE.gr.os.trans h5.os, hE.gr.tape.trans h5.tape, hE.gr.output.trans h5.output, Nat.le_trans h5.size hE.gr.size, fun j hj => ?_⟩, _, rp, _, _, hR⟩
    · exact (hE.gr.block w.heap.size (by omega) (by omega) (by omega)).trans h4
    · exact (hE.gr.block j (by omega) (by omega) (by omega)).trans (h5.block j hj)
  have hfinB : Hid (∀ f q e w', rdBad zs = some f → Below w.heap.size w w' → e = .returned (.tuple #[.agg uZ, .iface 66 (.pointer (some ⟨q, 0, none⟩))]) → w'.heap[q]? = some (.cells #[.int .i64 f.1, .int .i64 f.2] 68 (0, 0)) → ReOut w zs e w') := fun f q e w' q1 q2 q3 q4 => ⟨q2, .inl ⟨f, q, q1, q3, q4⟩⟩
  have hfinG : Hid (∀ vt vd ve vg LT LD LE LG e w', rdBad zs = none → Below w.heap.size w w' → e = .returned (.tuple #[.agg #[vt, vd, ve, vg], .nilIface]) → UL w.heap.size w' vt vd ve vg LT LD LE LG → LT.map (·.1) = (rdU zs).text → LD.map (·.1) = (rdU zs).data → LE.map (·.1) = (rdU zs).equs → LG = (rdU zs).globs → ReOut w zs e w') := fun vt vd ve vg LT LD LE LG e w' q1 q2 q3 q4 q5 q6 q7 q8 => ⟨q2, .inr ⟨q1, vt, vd, ve, vg, LT, LD, LE, LG, q3, q4, q5, q6, q7, q8⟩⟩
  obtain ⟨n0, hn0⟩ : ∃ n0, n0 = zs.length := ⟨_, rfl⟩
  rw [← hn0] at hU hn ⊢
  clear h1 h2 h3 h4 h5 hT hTs hsz h31 hl ha hc hn0
  have hmm := @run_makeMap Tryz.prog
  have hf1 : decide ((1048576 : Int) < (n0 : Int)) = false := by simp; omega
  cases hbad : rdBad zs with
  | none =>
    rw [hbad] at hU
    replace hbad := Hid.intro hbad
    clear hfinB
    go_enter Tryz.func10, Tryz.ntmps10
    go_upto_region 7 with (first
      | (go_at_call 31; (with_reducible refine (hU.out).mono ?_); rintro e w2 ⟨vt, vd, ve, vg, LT, LD, LE, LG, rfl, hO, m1, m2, m3, m4, hq0, hB2, p2, rp2, mv2, la2, hR2⟩; obtain ⟨t1, t2, rfl⟩ := own_slice hO.t.row; obtain ⟨t3, t4, rfl⟩ := own_slice hO.d.row; obtain ⟨t5, t6, rfl⟩ := own_slice hO.e.row; obtain ⟨t7, t8, rfl⟩ := own_slice hO.g; generalize hLT : LT.length = l1 at *; generalize hLD : LD.length = l2 at *; generalize hLE : LE.length = l3 at *; generalize hLG : LG.length = l4 at *; replace hLT := Hid.intro hLT; replace hLD := Hid.intro hLD; replace hLE := Hid.intro hLE; replace hLG := Hid.intro hLG; have hb3 := below_alloc w2 (.cells #[.slice t1 l1 t2, .slice t3 l2 t4, .slice t5 l3 t6, .slice t7 l4 t8] 30); have hR3 := hR2.below hb3; have hq3 := (hb3.block _ (blk_lt hq0)).trans hq0; have hu3 := heap_alloc_new w2 (.cells #[.slice t1 l1 t2, .slice t3 l2 t4, .slice t5 l3 t6, .slice t7 l4 t8] 30); have h32 := Hid.intro (refused_is hR3); have hO3 := Hid.intro (UL.below hO hb3); have hB3 := Hid.intro (hB2.trans (hb3.mono hB2.size)); have hlt2 : w.heap.size < w2.heap.size := blk_lt hq0; replace m1 := Hid.intro m1; replace m2 := Hid.intro m2; replace m3 := Hid.intro m3; replace m4 := Hid.intro m4; replace hq3 := Hid.intro hq3; replace hu3 := Hid.intro hu3; replace hR3 := Hid.intro hR3; clear hU hO hB2 hR2 hb3 hq0)
      | (go_at_call 32; (with_reducible refine (h32.out).mono ?_); rintro e w3 ⟨rfl, hw3⟩; subst w3; clear h32))
    all_goals first | omega | skip
    clear hmm
    generalize hW : w2.alloc (.cells #[.slice t1 l1 t2, .slice t3 l2 t4, .slice t5 l3 t6, .slice t7 l4 t8] 30) = w3 at *
    obtain ⟨y0, y1, y2, y3⟩ := four_read hu3.out
    obtain ⟨z0, z1, z2, z3⟩ := four_read hq3.out
    have tf := fun j => frozen_of_row w3 w.heap.size j _ 30 hq3.out
    go_wp2_with fail
    all_goals first | omega | skip
    obtain ⟨s0, k0⟩ := row_set hq3.out 0 (.slice t1 l1 t2)
    obtain ⟨s1, k1⟩ := row_set s0 1 (.slice t3 l2 t4)
    obtain ⟨s2, k2⟩ := row_set s1 2 (.slice t5 l3 t6)
    obtain ⟨s3, k3⟩ := row_set s2 3 (.slice t7 l4 t8)
    have kk := grown_trans k0 (grown_trans k1 (grown_trans k2 k3))
    obtain ⟨q0, q1, q2, q3⟩ := four_read s3
    have hO4 := hO3.out.low kk (Nat.lt_succ_self _)
    refine bodyPost_ret (by simp [results, Tryz.results10, go_sem, q0, q1, q2, q3]; try rfl) rfl ?_
    exact hfinG.out _ _ _ _ LT LD LE LG _ _ hbad.out (hB3.out.trans ⟨kk.os, kk.tape, kk.output, kk.size, fun j hj => kk.block j (Nat.lt_of_lt_of_le hj hB3.out.size) (fun e => by have := Option.some.inj e; omega)⟩) rfl ⟨hO4.t.weaken (Nat.le_succ _), hO4.d.weaken (Nat.le_succ _), hO4.e.weaken (Nat.le_succ _), own_weaken hO4.g (Nat.le_succ _), hO4.td⟩ m1.out m2.out m3.out m4.out
  | some f =>
    rw [hbad] at hU
    replace hbad := Hid.intro hbad
    clear hfinG
    go_enter Tryz.func10, Tryz.ntmps10
    go_upto_region 6 with (first
      | (go_at_call 31; (with_reducible refine (hU.out).mono ?_); rintro e w2 ⟨vt, vd, ve, vg, LT, LD, LE, LG, rfl, hO, m1, m2, m3, m4, hq0, hB2, p2, rp2, mv2, la2, hR2⟩; obtain ⟨t1, t2, rfl⟩ := own_slice hO.t.row; obtain ⟨t3, t4, rfl⟩ := own_slice hO.d.row; obtain ⟨t5, t6, rfl⟩ := own_slice hO.e.row; obtain ⟨t7, t8, rfl⟩ := own_slice hO.g; generalize hLT : LT.length = l1 at *; generalize hLD : LD.length = l2 at *; generalize hLE : LE.length = l3 at *; generalize hLG : LG.length = l4 at *; replace hLT := Hid.intro hLT; replace hLD := Hid.intro hLD; replace hLE := Hid.intro hLE; replace hLG := Hid.intro hLG; have hb3 := below_alloc w2 (.cells #[.slice t1 l1 t2, .slice t3 l2 t4, .slice t5 l3 t6, .slice t7 l4 t8] 30); have hR3 := hR2.below hb3; have hq3 := (hb3.block _ (blk_lt hq0)).trans hq0; have hu3 := heap_alloc_new w2 (.cells #[.slice t1 l1 t2, .slice t3 l2 t4, .slice t5 l3 t6, .slice t7 l4 t8] 30); have h32 := Hid.intro (refused_is hR3); have hO3 := Hid.intro (UL.below hO hb3); have hB3 := Hid.intro (hB2.trans (hb3.mono hB2.size)); have hlt2 : w.heap.size < w2.heap.size := blk_lt hq0; replace m1 := Hid.intro m1; replace m2 := Hid.intro m2; replace m3 := Hid.intro m3; replace m4 := Hid.intro m4; replace hq3 := Hid.intro hq3; replace hu3 := Hid.intro hu3; replace hR3 := Hid.intro hR3; clear hU hO hB2 hR2 hb3 hq0)
      | (go_at_call 32; (with_reducible refine (h32.out).mono ?_); rintro e w3 ⟨rfl, hw3⟩; subst w3; clear h32))
    all_goals first | omega | skip
    clear hmm
    generalize hW : w2.alloc (.cells #[.slice t1 l1 t2, .slice t3 l2 t4, .slice t5 l3 t6, .slice t7 l4 t8] 30) = w3 at *
    obtain ⟨q, hq, hqb⟩ := hR3.out.rf
    obtain ⟨_, _, c2, _, _⟩ := five_read hR3.out.blk
    rw [hq] at c2
    obtain ⟨z0, z1, z2, z3⟩ := four_read hq3.out
    have tf := fun j => frozen_of_row w3 w.heap.size j _ 30 hq3.out
    have hne : ¬ w.heap.size = w.heap.size + 2 := by omega
    go_region
    all_goals first | omega | skip
    go_wp2_with fail
    obtain ⟨s0, k0⟩ := row_set hq3.out 0 (.slice none 0 0)
    obtain ⟨s1, k1⟩ := row_set s0 1 (.slice none 0 0)
    obtain ⟨s2, k2⟩ := row_set s1 2 (.slice none 0 0)
    obtain ⟨s3, k3⟩ := row_set s2 3 (.slice none 0 0)
    have kk0 := grown_trans k0 (grown_trans k1 (grown_trans k2 k3))
    generalize hW4 : (((w3.setCell ⟨w.heap.size, 0, none⟩ (.slice none 0 0)).setCell ⟨w.heap.size, 1, none⟩ (.slice none 0 0)).setCell ⟨w.heap.size, 2, none⟩ (.slice none 0 0)).setCell ⟨w.heap.size, 3, none⟩ (.slice none 0 0) = w4 at *
    have kk : w3.grownBy w4.drew (some w.heap.size) := ⟨kk0.os, kk0.tape, kk0.output, kk0.size, kk0.block⟩
    have s4 : w4.drew.heap[w.heap.size]? = some (.cells uZ 30 (0, 0)) := s3
    generalize w4.drew = w5 at *
    obtain ⟨q0, q1, q2, q3⟩ := four_read s4
    have hqw : w.heap.size ≠ q := fun e => by
      rw [← e, hq3.out] at hqb
      cases hqb
    refine bodyPost_ret (v := .tuple #[.agg uZ, .iface 66 (.pointer (some ⟨q, 0, none⟩))]) (by simp [results, Tryz.results10, go_sem, q0, q1, q2, q3]; try rfl) rfl ?_
    refine hfinB.out f q _ _ hbad.out (hB3.out.trans ⟨kk.os, kk.tape, kk.output, kk.size, fun j hj => kk.block j (Nat.lt_of_lt_of_le hj hB3.out.size) (fun e => by have := Option.some.inj e; omega)⟩) rfl ?_
    exact (kk.block q (blk_lt hqb) (fun e => hqw (Option.some.inj e).symm)).trans hqb
end
end Go.Proofs.YtmndccbeddaphaaGreatDoor
