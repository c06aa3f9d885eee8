/- object's reader: a unit. -/
import Derived.Test.YtmndccbeddaphaaGreatDoorOrd14
import Derived.Test.YtmndccbeddaphaaGreatDoorOcMath
import Derived.Test.YtmndccbeddaphaaGreatDoorWhl
import Derived.Test.YtmndccbeddaphaaGreatDoorSetM
namespace Go.Proofs.YtmndccbeddaphaaGreatDoor
open Go.ChangeShapes Go.WideShapes Go.ChangeAt Go.RowKit
set_option linter.unusedVariables false
set_option linter.unusedSimpArgs false
set_option maxRecDepth 100000
section
variable {w w' w1 : World} {r : Nat} {a : Option Addr} {c : Nat} {zs : List Int} {p : Nat} {bad : Option (Int × Int)} {rp : Option Nat} {mv : Value} {last : List UInt8} {b n : Nat} {g : List (List UInt8)} {q : Nat} {A : Array Value} {w2 : World}
def glB (s last : List UInt8) (g : INm) (p : Nat) (b : Rfu) : Rfu := if s ∈ g ∧ nlt last s = true then b else firstR b ((p : Int), 31)
theorem RS.lastPut (h : RS w r a c zs p bad rp mv last) (s : List UInt8) : RS (w.setCell ⟨r, 4, none⟩ (.string (str s))) r a c zs p bad rp mv s ∧ w.grownBy (w.setCell ⟨r, 4, none⟩ (.string (str s))) (some r) := by
  obtain ⟨s1, k1⟩ := row_set h.blk 4 (.string (str s))
  exact ⟨h.put k1 h.at_ s1 (h.rf.grown h.rne k1), k1⟩
def GlbOut (w : World) (r : Nat) (a : Option Addr) (c : Nat) (zs : List Int) (b n : Nat) (g : List (List UInt8)) (last : List UInt8) (p : Nat) (bad : Option (Int × Int)) (e : Ending) (w' : World) : Prop :=
  e = .returned (.string (str (txL zs p))) ∧ w.grownBy w' (some r) ∧ ∃ rp, RS w' r a c zs (txP zs p) (glB (txL zs p) last g p (txB zs p bad)) rp (.map (some b)) (txL zs p)
set_option maxHeartbeats 16000000 in
theorem global_is (h : RS w r a c zs p bad rp (.map (some b)) last) (hS : SetIs w b n g) (hbr : b ≠ r) :
    Calls Tryz.prog 81 #[.pointer (some ⟨r, 0, none⟩)] w fun e w' => GlbOut w r a c zs b n g last p bad e w' := by
  have hz := h.lies.1
  have n1 : Hid (Calls Tryz.prog 115 #[.pointer (some ⟨r, 0, none⟩)] w fun e w' => e = .returned (.string (str (txL zs p))) ∧ w.grownBy w' (some r) ∧ ∃ rp', RS w' r a c zs (txP zs p) (txB zs p bad) rp' (.map (some b)) last) := by
    rw [str_txL]
    exact text_is h
  have hsz : (txL zs p).length ≤ 65535 := by
    have := txL_le hz p
    rw [ByteArray.size, ← Array.length_toList] at this
    exact this
  have c1 := (five_read h.blk).2.1
  unfold GlbOut glB
  generalize txB zs p bad = b1 at *
  generalize txP zs p = p1 at *
  generalize txL zs p = sN at *
  have hlook : Hid (∀ w1, w.grownBy w1 (some r) → (Instr.lookup 69 (.map (some b)) (.string (str sN)) true).run Tryz.prog w1 = .ok (.tuple #[.agg #[], .bool (decide (sN ∈ g))]) w1) := fun w1 g1 => setlook_run (hS.kept g1 (fun e => hbr (Option.some.inj e))) sN (by omega)
  have hfin : Hid (∀ w1 w4 rp4 b4, w.grownBy w1 (some r) → (w1.alloc (.cells #[] 164)).grownBy w4 (some r) → RS w4 r a c zs p1 b4 rp4 (.map (some b)) last → w.grownBy (w4.setCell ⟨r, 4, none⟩ (.string (str sN))) (some r) ∧ ∃ rp, RS (w4.setCell ⟨r, 4, none⟩ (.string (str sN))) r a c zs p1 b4 rp (.map (some b)) sN) := fun w1 w4 rp4 b4 g1 g4 hR => by
    obtain ⟨k1, k2⟩ := hR.lastPut sN
    exact ⟨grown_trans g1 (grown_trans (World.grownBy_alloc w1 (.cells #[] 164) (some r)) (grown_trans g4 k2)), rp4, k1⟩
  have hcmp := leq_nlt last sN
  have e1 := str_toList sN
  have e2 := str_toList last
  clear h hS hz
  by_cases hg : sN ∈ g
  · rw [decide_eq_true hg] at hlook
    cases hl : nlt last sN with
    | true =>
      rw [if_pos ⟨hg, rfl⟩]
      rw [hl, Bool.not_true] at hcmp
      clear hl
      go_enter Tryz.func81, Tryz.ntmps81
      go_wp2_with (first | (go_at_call 115; (with_reducible refine (n1.out).mono ?_); rintro e w1 ⟨rfl, g1, rp1, hR1⟩; have hlk := hlook.out w1 g1; have hR2 := Hid.intro (hR1.below (below_alloc w1 (.cells #[] 164))); have d3 := (five_read hR1.blk).2.2.2.1; have d4 := (five_read hR2.out.blk).2.2.2.2; have df := fun j => frozen_of_row (w1.alloc (.cells #[] 164)) r j _ 71 hR2.out.blk; replace g1 := Hid.intro g1; clear hR1 n1))
      all_goals first | omega | skip
      have hF := hfin.out w1 (w1.alloc (.cells #[] 164)) rp1 b1 g1.out ⟨rfl, rfl, rfl, Nat.le_refl _, fun _ _ _ => rfl⟩ hR2.out
      go_ret
      exact ⟨rfl, hF⟩
    | false =>
      rw [if_neg (by simp)]
      rw [hl, Bool.not_false] at hcmp
      clear hl
      go_enter Tryz.func81, Tryz.ntmps81
      go_wp2_with (first | (go_at_call 115; (with_reducible refine (n1.out).mono ?_); rintro e w1 ⟨rfl, g1, rp1, hR1⟩; have hlk := hlook.out w1 g1; have hR2 := Hid.intro (hR1.below (below_alloc w1 (.cells #[] 164))); have d3 := (five_read hR1.blk).2.2.2.1; have d4 := (five_read hR2.out.blk).2.2.2.2; have df := fun j => frozen_of_row (w1.alloc (.cells #[] 164)) r j _ 71 hR2.out.blk; replace g1 := Hid.intro g1; clear hR1 n1) | (go_at_call 82; (with_reducible refine (refuse_is hR2.out _ _).mono ?_); rintro e w4 ⟨rfl, g4, rp4, hR4⟩; have d5 := (five_read hR4.blk).2.2.2.2; have df4 := fun j => frozen_of_row w4 r j _ 71 hR4.blk; have hF := Hid.intro (hfin.out w1 w4 rp4 _ g1.out g4 hR4); clear hR4 g4 d4 df))
      all_goals first | omega | skip
      go_ret
      exact ⟨rfl, hF.out⟩
  · rw [decide_eq_false hg] at hlook
    rw [if_neg (by simp [hg])]
    clear hcmp
    go_enter Tryz.func81, Tryz.ntmps81
    go_wp2_with (first | (go_at_call 115; (with_reducible refine (n1.out).mono ?_); rintro e w1 ⟨rfl, g1, rp1, hR1⟩; have hlk := hlook.out w1 g1; have hR2 := Hid.intro (hR1.below (below_alloc w1 (.cells #[] 164))); have d3 := (five_read hR1.blk).2.2.2.1; have d4 := (five_read hR2.out.blk).2.2.2.2; have df := fun j => frozen_of_row (w1.alloc (.cells #[] 164)) r j _ 71 hR2.out.blk; replace g1 := Hid.intro g1; clear hR1 n1) | (go_at_call 82; (with_reducible refine (refuse_is hR2.out _ _).mono ?_); rintro e w4 ⟨rfl, g4, rp4, hR4⟩; have d5 := (five_read hR4.blk).2.2.2.2; have df4 := fun j => frozen_of_row w4 r j _ 71 hR4.blk; have hF := Hid.intro (hfin.out w1 w4 rp4 _ g1.out g4 hR4); clear hR4 g4 d4 df))
    all_goals first | omega | skip
    go_ret
    exact ⟨rfl, hF.out⟩
end
end Go.Proofs.YtmndccbeddaphaaGreatDoor
namespace Go.Proofs.YtmndccbeddaphaaGreatDoor
open Go.ChangeShapes Go.WideShapes Go.ChangeAt Go.RowKit Go.Sort
set_option linter.unusedVariables false
set_option linter.unusedSimpArgs false
set_option maxRecDepth 100000
def rowSt (l : INm) : List Value := l.map fun s => .string (str s)
def rdGlLoop (zs : List Int) (g : INm) : Nat → INm → List UInt8 → Nat → Rfu → INm × List UInt8 × Nat × Rfu
  | 0, acc, la, p, b => (acc, la, p, b)
  | k + 1, acc, la, p, b => if b.isSome then ([], la, p, b) else rdGlLoop zs g k (acc ++ [txL zs p]) (txL zs p) (txP zs p) (glB (txL zs p) la g p (txB zs p b))
def rdGlobs (zs : List Int) (g : INm) (la : List UInt8) (p : Nat) (b : Rfu) : INm × List UInt8 × Nat × Rfu := rdGlLoop zs g (rdV zs p 2).toNat [] la (rdP zs p 2) (rdB zs p 2 b)
section
variable {w w' w1 : World} {r : Nat} {a : Option Addr} {c : Nat} {zs : List Int} {p : Nat} {bad : Option (Int × Int)} {rp : Option Nat} {mv : Value} {last : List UInt8} {b n : Nat} {g : List (List UInt8)} {w2 : World}
structure GL (w : World) (r : Nat) (a : Option Addr) (c : Nat) (zs : List Int) (b n : Nat) (g : INm) (R : INm × List UInt8 × Nat × Rfu) (k : Nat) (L : INm) (la : List UInt8) (p : Nat) (bad : Rfu) (v : Value) (wr : World) : Prop where
  rs : ∃ rp, RS wr r a c zs p bad rp (.map (some b)) la
  own : wr.ownsRow w.heap.size 9 1 v L.length (rowSt L)
  gr : w.grownBy wr (some r)
  set : SetIs w b n g
  res : rdGlLoop zs g k L la p bad = R
  lo : r < w.heap.size ∧ b ≠ r
theorem GL.sets {R : INm × List UInt8 × Nat × Rfu} {k : Nat} {L : INm} {v : Value} {wr : World} (h : GL w r a c zs b n g R k L last p bad v wr) : SetIs wr b n g := h.set.kept h.gr (fun e => h.lo.2 (Option.some.inj e))
theorem GL.mid {R : INm × List UInt8 × Nat × Rfu} {k : Nat} {L : INm} {v : Value} {wr : World} (h : GL w r a c zs b n g R k L last p bad v wr) (hg : wr.grownBy w2 (some r)) (o : Obj) : (w2.alloc o).ownsRow w.heap.size 9 1 v L.length (rowSt L) := own_keptB (own_low h.own hg h.lo.1) (below_alloc w2 o)
theorem GL.next {R : INm × List UInt8 × Nat × Rfu} {k : Nat} {L : INm} {v v' : Value} {wr w4 : World} (h : GL w r a c zs b n g R (k + 1) L last p none v wr) (hg : wr.grownBy w2 (some r)) (hR : ∃ rp, RS w2 r a c zs (txP zs p) (glB (txL zs p) last g p (txB zs p none)) rp (.map (some b)) (txL zs p)) (o : Obj)
    (ho : w4.ownsRow w.heap.size 9 1 v' (L.length + 1) (rowSt L ++ [.string (str (txL zs p))])) (hg4 : (w2.alloc o).grownBy w4 v.ownBlock) : GL w r a c zs b n g R k (L ++ [txL zs p]) (txL zs p) (txP zs p) (glB (txL zs p) last g p (txB zs p none)) v' w4 := by
  have hm := h.mid hg o
  obtain ⟨rp, hR⟩ := hR
  refine ⟨⟨rp, (hR.below (below_alloc w2 o)).off hm h.lo.1 (by decide) hg4⟩, ?_, ?_, h.set, ?_, h.lo⟩
  · have e : rowSt (L ++ [txL zs p]) = rowSt L ++ [.string (str (txL zs p))] := by simp [rowSt]
    rw [e, List.length_append]
    exact ho
  · exact grown_new (grown_trans h.gr (grown_trans hg (World.grownBy_alloc w2 o (some r)))) hg4 (fun g hgg => (hm.lt g hgg).1)
  · have := h.res
    rw [rdGlLoop] at this
    simpa using this
def GlsOut (w : World) (r : Nat) (a : Option Addr) (c : Nat) (zs : List Int) (b : Nat) (R : INm × List UInt8 × Nat × Rfu) (e : Ending) (w' : World) : Prop :=
  ∃ v, e = .returned v ∧ w.grownBy w' (some r) ∧ w'.ownsRow w.heap.size 9 1 v R.1.length (rowSt R.1) ∧ ∃ rp, RS w' r a c zs R.2.2.1 R.2.2.2 rp (.map (some b)) R.2.1
set_option maxHeartbeats 16000000 in
theorem globs_is (h : RS w r a c zs p bad rp (.map (some b)) last) (hS : SetIs w b n g) (hbr : b ≠ r) : Calls Tryz.prog 80 #[.pointer (some ⟨r, 0, none⟩), .int .i64 65535, .func (.func 81) #[.pointer (some ⟨r, 0, none⟩)] #[]] w fun e w' => GlsOut w r a c zs b (rdGlobs zs g last p bad) e w' := by
  obtain ⟨i1, hi1, hy0, hy1, hy2⟩ := info_parts info9
  have hbd := rdV_bd h.lies.1 p
  have hlt := blk_lt h.blk
  obtain ⟨_, c1, _, _, _⟩ := five_read h.blk
  have h113 := Hid.intro (num2_is h)
  have hR : Hid (rdGlLoop zs g (rdV zs p 2).toNat [] last (rdP zs p 2) (rdB zs p 2 bad) = rdGlobs zs g last p bad) := rfl
  generalize rdGlobs zs g last p bad = R at *
  obtain ⟨n0, hn0⟩ : ∃ n0 : Nat, rdV zs p 2 = (n0 : Int) := ⟨(rdV zs p 2).toNat, by omega⟩
  rw [hn0] at h113 hR hbd
  have hn1 : n0 ≤ 65535 := by omega
  rw [Int.toNat_natCast] at hR
  clear hn0 hbd
  have hst : Hid (∀ w1 (rp1 : Option Nat), w.grownBy w1 (some r) → RS w1 r a c zs (rdP zs p 2) (rdB zs p 2 bad) rp1 (.map (some b)) last → GL w r a c zs b n g R n0 [] last (rdP zs p 2) (rdB zs p 2 bad) (.slice none 0 0) w1) := fun w1 rp1 g1 hR1 => ⟨⟨rp1, hR1⟩, World.ownsRow_nil _ _ _ _, g1, hS, hR.out, hlt, hbr⟩
  clear h hlt hS hR
  go_enter Tryz.func80, Tryz.ntmps80
  go_wp2_with (go_at_call 113; (with_reducible refine (h113.out).mono ?_); rintro e w1 ⟨rfl, g1, rp1, hR1⟩; have hL0 := Hid.intro (hst.out w1 rp1 g1 hR1); clear g1 hR1)
  all_goals first | omega | skip
  clear h113 hst c1
  go_loopw [9, 24] (fun v9 v24 wr => ∃ (j : Nat) (L : INm) (la : List UInt8) (p' : Nat) (b' : Rfu) (a9 : Option Addr) (l9 c9 : Nat), j ≤ n0 ∧ v24 = .int .i64 (j : Int) ∧ v9 = .slice a9 l9 c9 ∧ l9 ≤ j ∧ Hid (l9 = L.length) ∧ Hid (GL w r a c zs b n g R (n0 - j) L la p' b' (.slice a9 L.length c9) wr)) (fun v9 v24 _ => n0 - (intOf v24).toNat)
  case atStart => exact ⟨0, [], _, _, _, none, 0, 0, by omega, rfl, rfl, by omega, rfl, hL0⟩
  case round =>
    obtain ⟨j, L, la, p', b', a9, l9, c9, hj, rfl, rfl, hl9, hl, hL⟩ := hrel
    clear hL0
    by_cases hjn : j < n0
    · have hk : Hid (n0 - j = (n0 - (j + 1)) + 1) := by show _ = _; omega
      obtain ⟨rp', hrs'⟩ := hL.out.rs
      have h32 := Hid.intro (refused_is hrs')
      cases b' with
      | some f =>
        replace hrs' := Hid.intro hrs'
        go_wp2_with (go_at_call 32; (with_reducible refine (h32.out).mono ?_); rintro e w2 ⟨rfl, hw2⟩; subst w2)
        all_goals first | omega | skip
        go_ret
        have hres : R = ([], la, p', some f) := by
          rw [← hL.out.res, hk.out, rdGlLoop]
          rfl
        rw [hres]
        exact ⟨_, rfl, hL.out.gr, World.ownsRow_nil _ _ _ _, rp', hrs'.out⟩
      | none =>
        have h81 := Hid.intro (global_is hrs' hL.out.sets hL.out.lo.2)
        unfold GlbOut at h81
        have hnx : Hid (∀ w2 v' w4, wr.grownBy w2 (some r) → (∃ rp, RS w2 r a c zs (txP zs p') (glB (txL zs p') la g p' (txB zs p' none)) rp (.map (some b)) (txL zs p')) → w4.ownsRow w.heap.size 9 1 v' (l9 + 1) (rowSt L ++ [.string (str (txL zs p'))]) → (w2.alloc (.cells #[.string (str (txL zs p'))] 9)).grownBy w4 (Value.slice a9 l9 c9).ownBlock → GL w r a c zs b n g R (n0 - (j + 1)) (L ++ [txL zs p']) (txL zs p') (txP zs p') (glB (txL zs p') la g p' (txB zs p' none)) v' w4) := fun w2 v' w4 h1 h2 h3 h4 => by
          have hh := hL.out
          rw [hk.out] at hh
          rw [hl.out] at h3 h4
          exact hh.next h1 h2 _ h3 h4
        have hmid : Hid (∀ w2, wr.grownBy w2 (some r) → (w2.alloc (.cells #[.string (str (txL zs p'))] 9)).ownsRow w.heap.size 9 1 (.slice a9 l9 c9) l9 (rowSt L) ∧ w.heap.size ≤ (w2.alloc (.cells #[.string (str (txL zs p'))] 9)).heap.size) := fun w2 h1 => by
          have := hL.out.mid h1 (.cells #[.string (str (txL zs p'))] 9)
          rw [← hl.out] at this
          exact ⟨this, by have := hL.out.gr.size; have := h1.size; simp; omega⟩
        have hll : Hid (l9 + 1 = (L ++ [txL zs p']).length) := by show _ = _; rw [List.length_append, hl.out]; rfl
        generalize glB (txL zs p') la g p' (txB zs p' none) = B3 at *
        generalize txL zs p' = S at *
        generalize txP zs p' = P3 at *
        clear hL hl hk hrs'
        go_wp2_with (first
          | (go_at_call 32; (with_reducible refine (h32.out).mono ?_); rintro e w2 ⟨rfl, hw2⟩; subst w2)
          | (go_at_call 81; (with_reducible refine (h81.out).mono ?_); rintro e w3 ⟨rfl, g3, hR3⟩; obtain ⟨hm1, hm2⟩ := hmid.out w3 g3; replace g3 := Hid.intro g3; replace hR3 := Hid.intro hR3; replace hm1 := Hid.intro hm1)
          | (at_builtin; go_must (refine wpList_app rfl (.tmp 28) (.tmp 31) 28 rfl w.heap.size 9 i1 _ 1 16 Tryz.underlying28 hi1 hy0 hy1 hy2 rfl (by decide) (.slice a9 l9 c9) l9 (rowSt L) rfl hm1.out (.slice (some ⟨w3.heap.size, 0, none⟩) 1 1) 1 [.string (str S)] rfl (.inr ⟨_, _, rfl, cells_new w3 #[.string (str S)] 9⟩) rfl (by simp [Value.oneCell']) (by unfold maxLen; omega) (by omega) hm2 ?_; intro v' w4 ho4 hg4 hw4; have hn4 := Hid.intro (hnx.out w3 v' w4 g3.out hR3.out ho4 hg4); obtain ⟨a4, c4, rfl⟩ := own_slice ho4; clear ho4 hg4 hw4)))
        all_goals first | omega | skip
        go_roundw
        case rel => exact ⟨j + 1, _, _, _, _, a4, l9 + 1, c4, by omega, by go_num, rfl, by omega, hll, by rw [← hll.out]; exact hn4⟩
        case measure => simp [intOf]; omega
    · obtain rfl : j = n0 := by omega
      go_wp2_with fail
      all_goals first | omega | skip
      go_ret
      have hres : R = (L, la, p', b') := by
        rw [← hL.out.res, Nat.sub_self, rdGlLoop]
      rw [hres, hl.out]
      obtain ⟨rp', hrs'⟩ := hL.out.rs
      exact ⟨_, rfl, hL.out.gr, hL.out.own, rp', hrs'⟩
end
end Go.Proofs.YtmndccbeddaphaaGreatDoor
namespace Go.Proofs.YtmndccbeddaphaaGreatDoor
open Go.ChangeShapes Go.WideShapes Go.ChangeAt Go.RowKit
set_option linter.unusedVariables false
set_option linter.unusedSimpArgs false
set_option maxRecDepth 100000
theorem rdItLoop_le (zs : List Int) (sec : Int) : (k : Nat) → (acc : List Itm) → (g : INm) → (p : Nat) → (b : Rfu) → (rdItLoop zs sec k acc g p b).1.length ≤ acc.length + k
  | 0, acc, g, p, b => Nat.le_refl _
  | k + 1, acc, g, p, b => by
    rw [rdItLoop]
    split
    · simp
    · have := rdItLoop_le zs sec k (acc ++ [(itR zs p b).1]) (itG (itR zs p b).1 sec g) (itR zs p b).2.1 (itB (itR zs p b).1 sec g p (itR zs p b).2.2)
      rw [List.length_append, List.length_singleton] at this
      omega
theorem rdItems_le {zs : List Int} (hz : O.AreBytes zs) (sec most : Int) (hm : 0 ≤ most) (g : INm) (p : Nat) (b : Rfu) : ((rdItems zs sec most g p b).1.length : Int) ≤ most := by
  unfold rdItems
  have hb := rdV_bd hz p
  by_cases h : rdV zs p 2 > most
  · obtain ⟨k, hk⟩ : ∃ k, (rdV zs p 2).toNat = k + 1 := ⟨(rdV zs p 2).toNat - 1, by omega⟩
    rw [hk, rdItLoop, manyB, if_pos h, if_pos (by unfold firstR; cases rdB zs p 2 b <;> rfl)]
    simpa using hm
  · have := rdItLoop_le zs sec (rdV zs p 2).toNat [] g (rdP zs p 2) (manyB (rdV zs p 2) most p (rdB zs p 2 b))
    simp at this
    omega
abbrev uZ : Array Value := #[.slice none 0 0, .slice none 0 0, .slice none 0 0, .slice none 0 0]
section
variable {w w' w1 : World} {r : Nat} {a : Option Addr} {c : Nat} {zs : List Int} {p : Nat} {bad : Option (Int × Int)} {rp : Option Nat} {mv : Value} {last : List UInt8} {b n : Nat} {g : List (List UInt8)} {w2 w3 : World} {A : Array Value}
structure US (w : World) (r : Nat) (a : Option Addr) (c : Nat) (zs : List Int) (b n : Nat) (g : INm) (last : List UInt8) (p : Nat) (bad : Rfu) (A : Array Value) (w2 : World) : Prop where
  rs : ∃ rp, RS w2 r a c zs p bad rp (.map (some b)) last
  set : SetIs w2 b n g
  tab : Tab w2
  row : w2.heap[w.heap.size + 1]? = some (.cells A 30 (0, 0))
  res : w2.heap[w.heap.size]? = some (.cells uZ 30 (0, 0))
  gr : G2 w w2 r b
  lo : 3 ≤ r ∧ 3 ≤ b ∧ r < w.heap.size ∧ b < w.heap.size ∧ b ≠ r
theorem US.los (h : US w r a c zs b n g last p bad A w2) : 3 ≤ r ∧ 3 ≤ b ∧ r < w2.heap.size ∧ b < w2.heap.size ∧ b ≠ r := by
  obtain ⟨t0, t1, t2, t3, t4⟩ := h.lo
  have := h.gr.size
  exact ⟨t0, t1, by omega, by omega, t4⟩
theorem US.step (h : US w r a c zs b n g last p bad A w2) {n' : Nat} {g' : INm} {last' : List UInt8} {p' : Nat} {bad' : Rfu} (hE : IE w2 r a c zs b n' g' last' p' bad' w3) : US w r a c zs b n' g' last' p' bad' A w3 := by
  obtain ⟨t0, t1, t2, t3, t4⟩ := h.lo
  exact ⟨hE.rs, hE.set, hE.tab, (hE.gr.block _ (blk_lt h.row) (by omega) (by omega)).trans h.row, (hE.gr.block _ (blk_lt h.res) (by omega) (by omega)).trans h.res, h.gr.trans hE.gr, h.lo⟩
theorem US.num (h : US w r a c zs b n g last p bad A w2) {last' : List UInt8} {p' : Nat} {bad' : Rfu} (hg : w2.grownBy w3 (some r)) (hR : ∃ rp, RS w3 r a c zs p' bad' rp (.map (some b)) last') : US w r a c zs b n g last' p' bad' A w3 :=
  h.step ⟨hR, G2.of hg (fun j e => .inl (Option.some.inj e).symm), h.set.blk (hg.block b h.set.lt (fun e => h.lo.2.2.2.2 (Option.some.inj e))), h.tab.grown hg h.lo.1⟩
theorem US.put (h : US w r a c zs b n g last p bad A w2) (j : Nat) (y : Value) : US w r a c zs b n g last p bad (A.setIfInBounds j y) (w2.setCell ⟨w.heap.size + 1, j, none⟩ y) ∧ w2.grownBy (w2.setCell ⟨w.heap.size + 1, j, none⟩ y) (some (w.heap.size + 1)) := by
  obtain ⟨t0, t1, t2, t3, t4⟩ := h.lo
  obtain ⟨s1, k1⟩ := row_set h.row j y
  obtain ⟨rp, hR⟩ := h.rs
  exact ⟨⟨⟨rp, hR.far (by omega) h.row (by decide) k1⟩, h.set.blk (k1.block b h.set.lt (fun e => by have := Option.some.inj e; omega)), h.tab.grown k1 (by omega), s1, (k1.block _ (blk_lt h.res) (fun e => by have := Option.some.inj e; omega)).trans h.res, ⟨k1.os.trans h.gr.os, k1.tape.trans h.gr.tape, k1.output.trans h.gr.output, Nat.le_trans h.gr.size k1.size, fun i hi h1 h2 => (k1.block i (Nat.lt_of_lt_of_le hi h.gr.size) (fun e => by have := Option.some.inj e; omega)).trans (h.gr.block i hi h1 h2)⟩, h.lo⟩, k1⟩
theorem US.start (h : RS w r a c zs p bad rp (.map (some b)) last) (hS : SetIs w b n g) (hT : Tab w) (hlo : 3 ≤ r ∧ 3 ≤ b ∧ r < w.heap.size ∧ b < w.heap.size ∧ b ≠ r) : US w r a c zs b n g last p bad uZ ((w.alloc (.cells uZ 30)).alloc (.cells uZ 30)) := by
  have h1 := below_alloc w (.cells uZ 30)
  have h2 := below_alloc (w.alloc (.cells uZ 30)) (.cells uZ 30)
  have e1 := heap_alloc_new w (.cells uZ 30)
  have e2 := heap_alloc_new (w.alloc (.cells uZ 30)) (.cells uZ 30)
  rw [show (w.alloc (.cells uZ 30)).heap.size = w.heap.size + 1 by simp] at e2
  exact ⟨⟨rp, (h.below h1).below h2⟩, hS.blk ((h2.block b (Nat.lt_of_lt_of_le hS.lt h1.size)).trans (h1.block b hS.lt)), (hT.below h1 hT.size).below h2 (hT.below h1 hT.size).size, e2, (h2.block _ (blk_lt e1)).trans e1, (G2.of (grown_of_below h1) (fun j e => by cases e)).trans (.of (grown_of_below h2) (fun j e => by cases e)), hlo⟩
theorem ItOwn.g2 {lo : Nat} {v : Value} {L : List (Itm × Value)} (h : ItOwn lo w2 v L) (hg : G2 w2 w3 r b) (h1 : r < lo) (h2 : b < lo) : ItOwn lo w3 v L := ⟨own_G2 h.row hg h1 h2, fun q hq => own_G2 (h.each q hq) hg h1 h2⟩
theorem ItOwn.low {lo k : Nat} {v : Value} {L : List (Itm × Value)} (h : ItOwn lo w2 v L) (hg : w2.grownBy w3 (some k)) (hk : k < lo) : ItOwn lo w3 v L := ⟨own_low h.row hg hk, fun q hq => own_low (h.each q hq) hg hk⟩
theorem EqOw.g2 {lo : Nat} {v : Value} {L : List (Eqv × Value)} (h : EqOw lo w2 v L) (hg : G2 w2 w3 r b) (h1 : r < lo) (h2 : b < lo) : EqOw lo w3 v L := ⟨own_G2 h.row hg h1 h2, fun q hq => own_G2 (h.each q hq) hg h1 h2⟩
theorem EqOw.low {lo k : Nat} {v : Value} {L : List (Eqv × Value)} (h : EqOw lo w2 v L) (hg : w2.grownBy w3 (some k)) (hk : k < lo) : EqOw lo w3 v L := ⟨own_low h.row hg hk, fun q hq => own_low (h.each q hq) hg hk⟩
end
end Go.Proofs.YtmndccbeddaphaaGreatDoor
