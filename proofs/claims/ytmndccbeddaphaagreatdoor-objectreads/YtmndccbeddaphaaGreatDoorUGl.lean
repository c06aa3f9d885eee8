/- unit's hasTwice and rightGlobals; the library's BinarySearch at names that rise. -/
import Derived.Test.YtmndccbeddaphaaGreatDoorShx
import Derived.Test.YtmndccbeddaphaaGreatDoorEr1
import Derived.Shelf.Sort.Plain
import Derived.Shelf.Slices.In.SortNone
import Derived.Shelf.Slices.CompactS
import Derived.Sort.OwnSorted
import Derived.Lib.OwnBridge
import Derived.BigQuiet
import Derived.Test.YtmndccbeddaphaaGreatDoorNames
import Derived.Lib.IndexLaws
import Derived.Test.YtmndccbeddaphaaGreatDoorNum2
import Derived.Test.YtmndccbeddaphaaGreatDoorQuietB
import Derived.RangeFuncNested
import Derived.RangeFuncBound
import Derived.RangeFuncCalls
import Derived.RangeFuncLeaves
import Derived.Shelf.Abstract
import Derived.Shelf.RegionOpen
import Derived.WalkKit
import Derived.OwnWalkIn
import Derived.TacticsInMore
import Derived.LoopNIn
import Derived.LoopIn
import Derived.WalkSmall
import Derived.Deep.QuietTactic
import Derived.WalkSpells
import Derived.Handy
import Derived.RangeFuncFrom
import Derived.Test.YtmndccbeddaphaaGreatDoorOwn
import Derived.Deep.RegionLaw
import Derived.Deep.DeepCutAuto
import Derived.Deep.DeepAppendWide
import Derived.Laws.Cover1
import Derived.Test.YtmndccbeddaphaaGreatDoorEr5
import Derived.Deep.RegionHeld3
import Derived.RangeFuncWrites
import Derived.Shelf.Spec.SearchS
import Derived.Sort.Walk0
/- Texts sorted, and each of them once: the library's, at lists that are owned. -/
namespace Go.Proofs.YtmndccbeddaphaaGreatDoor
open Go.ChangeShapes Go.WideShapes Go.ChangeAt Go.RowKit Go.Sort
set_option linter.unusedVariables false
set_option maxRecDepth 100000
def sortS (ss : List (List UInt8)) : List (List UInt8) := ss.mergeSort fun x y => decide (x ≤ y)
theorem sortS_len (ss : List (List UInt8)) : (sortS ss).length = ss.length := List.length_mergeSort ss
theorem sortS_any (v : Value) (ss : List (List UInt8)) (B : Nat) (w : World) (hl : ss.length ≤ 9000000) (hown : w.ownsRow B 9 1 v ss.length (ss.map encStr)) :
    Calls Tryz.prog 105 #[v] w fun e w' => e = .returned (.tuple #[]) ∧ w'.ownsRow B 9 1 v ss.length ((sortS ss).map encStr) ∧ w.grownBy w' v.ownBlock := by
  rcases hown.2 with ⟨rfl, h0⟩ | ⟨g, cap, cur, rfl, hbase, hb, h1, h2, h3, h4⟩
  · have he : ss = [] := List.eq_nil_of_length_eq_zero h0
    subst he
    refine (Any.slices_Sort_string_none Tryz.laysStrSort none 0 w).mono ?_
    rintro e w' ⟨rfl, rfl⟩
    exact ⟨rfl, by simpa [sortS] using World.ownsRow_nil _ B 9 1, World.grownBy.refl _ _⟩
  · have hv : (Value.slice (some ⟨g, 0, none⟩) ss.length cap) ≠ .slice none 0 0 := by simp
    obtain ⟨g', cap', e1, _, hlt, _, _, _, hH⟩ := Lib.holds_of_ownsRow hown hv
    injection e1 with e1 _ e3
    injection e1 with e1
    injection e1 with e1
    subst e1 e3
    refine (Any.slices_Sort_string Tryz.laysStrSort g 0 cap ss w hH hlt (by omega)).mono ?_
    rintro e w' ⟨rfl, n, os, rfl⟩
    exact ⟨rfl, ownsRow_sorted (sortS_len ss) hbase hb h1 h2 h3, grownBy_sorted _⟩
end Go.Proofs.YtmndccbeddaphaaGreatDoor
/- unit's whole: the unit, when all lines are taken. -/
namespace Go.Proofs.YtmndccbeddaphaaGreatDoor
open Go.ChangeShapes Go.WideShapes Go.ChangeAt Go.RowKit Go.Sort
set_option linter.unusedVariables false
set_option maxRecDepth 100000
theorem info9 : (Tryz.prog.info? 9).map (fun i => (i.zero, i.size, i.bytes)) = some (some (.string ⟨#[]⟩), 1, 16) := by kernel_rfl
abbrev unit4 (a b c d : Value) : Array Value := #[a, b, c, d]
theorem four_read {T : TypeId} {w : World} {g : Nat} {v0 v1 v2 v3 : Value} (h : w.heap[g]? = some (.cells #[v0, v1, v2, v3] T (0, 0))) : w.cell? ⟨g, 0, none⟩ = some v0 ∧ w.cell? ⟨g, 1, none⟩ = some v1 ∧ w.cell? ⟨g, 2, none⟩ = some v2 ∧ w.cell? ⟨g, 3, none⟩ = some v3 :=
  ⟨(cell_blockT h 0).trans rfl, (cell_blockT h 1).trans rfl, (cell_blockT h 2).trans rfl, (cell_blockT h 3).trans rfl⟩
end Go.Proofs.YtmndccbeddaphaaGreatDoor
/- A unit that is read: items, equations, names in memory. -/
namespace Go.Proofs.YtmndccbeddaphaaGreatDoor
open Go.ChangeShapes Go.WideShapes Go.ChangeAt Go.RowKit Go.Sort
set_option linter.unusedVariables false
set_option maxRecDepth 100000
def ItIn (w : World) (a : Option Addr) (l : List Itm) : Prop := l = [] ∨ ∃ g o, a = some ⟨g, o, none⟩ ∧ g < w.heap.size ∧ ∀ (i : Nat) (x : Itm), l[i]? = some x → ∃ va vc, ItAt w g (o + i * 10) x va x.e.terms.length vc ∧ TmLies w va x.e.terms
def EqIn (w : World) (a : Option Addr) (l : List (List UInt8 × Lin)) : Prop := l = [] ∨ ∃ g o, a = some ⟨g, o, none⟩ ∧ g < w.heap.size ∧ ∀ (i : Nat) (q : List UInt8 × Lin), l[i]? = some q → ∃ va vc, w.cell? ⟨g, o + i * 3, none⟩ = some (.string (str q.1)) ∧ w.cell? ⟨g, o + i * 3 + 1, none⟩ = some (.slice va q.2.terms.length vc) ∧ w.cell? ⟨g, o + i * 3 + 2, none⟩ = some (.int .u32 q.2.const) ∧ TmLies w va q.2.terms
def StIn (w : World) (a : Option Addr) (l : List (List UInt8)) : Prop := l = [] ∨ ∃ g o, a = some ⟨g, o, none⟩ ∧ g < w.heap.size ∧ ∀ (i : Nat) (s : List UInt8), l[i]? = some s → w.cell? ⟨g, o + i, none⟩ = some (.string (str s))
theorem ItIn.below {w w' : World} {a : Option Addr} {l : List Itm} (h : ItIn w a l) (hb : Below w.heap.size w w') : ItIn w' a l := by
  rcases h with h | ⟨g, o, ha, hg, h⟩
  · exact .inl h
  · refine .inr ⟨g, o, ha, Nat.lt_of_lt_of_le hg hb.size, fun i x hi => ?_⟩
    obtain ⟨va, vc, h1, h2⟩ := h i x hi
    exact ⟨va, vc, h1.below hb hg, h2.below hb (Nat.le_refl _)⟩
theorem EqIn.below {w w' : World} {a : Option Addr} {l : List (List UInt8 × Lin)} (h : EqIn w a l) (hb : Below w.heap.size w w') : EqIn w' a l := by
  rcases h with h | ⟨g, o, ha, hg, h⟩
  · exact .inl h
  · refine .inr ⟨g, o, ha, Nat.lt_of_lt_of_le hg hb.size, fun i x hi => ?_⟩
    obtain ⟨va, vc, h1, h2, h3, h4⟩ := h i x hi
    exact ⟨va, vc, (hb.cell (p := ⟨g, _, none⟩) hg).trans h1, (hb.cell (p := ⟨g, _, none⟩) hg).trans h2, (hb.cell (p := ⟨g, _, none⟩) hg).trans h3, h4.below hb (Nat.le_refl _)⟩
theorem StIn.below {w w' : World} {a : Option Addr} {l : List (List UInt8)} (h : StIn w a l) (hb : Below w.heap.size w w') : StIn w' a l := by
  rcases h with h | ⟨g, o, ha, hg, h⟩
  · exact .inl h
  · exact .inr ⟨g, o, ha, Nat.lt_of_lt_of_le hg hb.size, fun i x hi => (hb.cell (p := ⟨g, _, none⟩) hg).trans (h i x hi)⟩
theorem own_stIn {lo : Nat} {w : World} {a : Option Addr} {n c : Nat} {l : List (List UInt8)} (h : w.ownsRow lo 9 1 (.slice a n c) l.length (l.map encStr)) : StIn w a l := by
  rcases h.2 with ⟨hv, h0⟩ | ⟨g, cap, cur, hv, _, hg, _⟩
  · exact .inl (List.length_eq_zero_iff.1 h0)
  · have hn := own_len h
    injection hv with hv1 hv2 hv3
    subst hv1
    refine .inr ⟨g, 0, rfl, (Array.getElem?_eq_some_iff.1 hg).1, fun i s hs => ?_⟩
    have hlt := (List.getElem?_eq_some_iff.1 hs).1
    rw [hn] at h
    rw [Nat.zero_add, h.cellAt i (by omega), List.getElem?_map, hs]
    rfl
structure HeldI (x : Itm) : Prop where
  name : x.name.length ≤ 1100000
  m : -2147483648 ≤ x.m ∧ x.m ≤ 2147483647
  n : -9223372036854775808 ≤ x.n ∧ x.n ≤ 9223372036854775807
  few : x.e.terms.length ≤ 9000000
  names : ∀ t ∈ x.e.terms, t.name.length ≤ 1100000
set_option maxHeartbeats 4000000 in
theorem rightItems_any (a : Option Addr) (c : Nat) (l : List Itm) (sec : Int) (hsec : sec = 0 ∨ sec = 1) (hl : l.length ≤ 1100000) (hH : ∀ x ∈ l, HeldI x) (w : World) (hT : Tab w) (hI : ItIn w a l) :
    Calls Tryz.prog 59 #[.slice a l.length c, .int .i64 sec] w fun e w' => e = .returned (.bool (l.all fun x => okI x sec)) ∧ Below w.heap.size w w' := by
  obtain ⟨n0, hn0⟩ : ∃ n0, n0 = l.length := ⟨_, rfl⟩
  obtain ⟨bv, hbv⟩ : ∃ bv, bv = l.all fun x => okI x sec := ⟨_, rfl⟩
  rw [← hn0, ← hbv]
  rw [← hn0] at hl
  replace hn0 := Hid.intro hn0
  replace hbv := Hid.intro hbv
  have hIH := Hid.intro hI
  have hTH := Hid.intro hT
  have hHH := Hid.intro hH
  clear hI hT hH
  go_enter Tryz.func59, Tryz.ntmps59
  go_wp2
  all_goals first | omega | skip
  go_loopw [9] (fun v9 wr => ∃ i : Nat, i ≤ n0 ∧ v9 = .int .i64 (i : Int) ∧ Hid ((l.take i).all (fun x => okI x sec) = true) ∧ Hid (Below w.heap.size w wr)) (fun v9 wr => n0 - (intOf v9).toNat)
  case atStart => exact ⟨0, by omega, rfl, (by show _ = _; simp), Below.refl _ _⟩
  case round =>
    obtain ⟨i, hi, rfl, hall, hB⟩ := hrel
    by_cases hlt : i < n0
    · obtain ⟨x, hx⟩ : ∃ x, l[i]? = some x := ⟨l[i]'(by rw [← hn0.out]; exact hlt), List.getElem?_eq_getElem _⟩
      rcases hIH.out.below hB.out with h0 | ⟨g, o, rfl, hg, hat⟩
      · rw [h0] at hx; simp at hx
      obtain ⟨va, vc, hI, hTm⟩ := hat i x hx
      obtain ⟨c0, c1, c2, c3, c4, c5, c6, c7, c8, c9⟩ := hI
      have hh := hHH.out x (List.mem_of_getElem? hx)
      have hlt2 : (i : Int) < (n0 : Int) := by omega
      have hTr := hTH.out.below hB.out hTH.out.size
      have hrt := itemRight_any x.kind (str x.name) (by rw [show (str x.name).size = x.name.length from rfl]; exact hh.name) x.op x.a x.b x.m x.form hh.m va vc x.e.terms x.e.const x.n sec hh.n (wr.alloc (.cells (itmCells x (.slice va x.e.terms.length vc)) 86)) (hTr.alloc _) (hTm.below (below_alloc wr _) (Nat.le_refl _)) hh.few hh.names
      have hok : okB x.kind (str x.name) x.op x.a x.b x.m x.form x.e.terms x.e.const x.n sec = okI x sec := rfl
      rw [hok, show rightN sec (okI x sec) = if okI x sec then 0 else 31 by unfold rightN; rw [if_neg (by omega)]] at hrt
      have hnext := Hid.intro (fun (h : okI x sec = true) => show (l.take (i + 1)).all (fun x => okI x sec) = true by rw [List.take_add_one, hx]; simp [h]; simpa using hall.out)
      have hbad : Hid (okI x sec = false → bv = false) := fun h => by
        rw [hbv.out, Bool.eq_false_iff]
        intro h2
        rw [List.all_eq_true] at h2
        have := h2 x (List.mem_of_getElem? hx)
        rw [h] at this
        cases this
      have hbx := heap_alloc_new wr (.cells (itmCells x (.slice va x.e.terms.length vc)) 86)
      obtain ⟨b0, b1, b2, b3, b4, b5, b6, b7, b8, b9⟩ := rowIt hbx
      have hB1 : Hid (Below w.heap.size w (wr.alloc (.cells (itmCells x (.slice va x.e.terms.length vc)) 86))) := hB.out.alloc hB.out.size _
      clear hok hbx hx hh hTr hTm hat
      generalize okI x sec = ok at hrt hnext hbad
      generalize x.e.terms.length = ln at *
      replace hrt := Hid.intro hrt
      cases ok with
      | true =>
        go_wp2_with (go_at_call 101; (with_reducible refine (hrt.out).mono ?_); rintro e w1 ⟨rfl, hb1⟩)
        all_goals first | omega | skip
        go_roundw
        case rel => exact ⟨i + 1, by omega, by go_num, hnext.out (by simp), hB1.out.trans (hb1.mono hB1.out.size)⟩
        case measure => simp [intOf]; omega
      | false =>
        go_wp2_with (go_at_call 101; (with_reducible refine (hrt.out).mono ?_); rintro e w1 ⟨rfl, hb1⟩)
        all_goals first | omega | skip
        go_ret
        rw [hbad.out (by simp)]
        exact ⟨rfl, hB1.out.trans (hb1.mono hB1.out.size)⟩
    · have hin : i = n0 := by omega
      have hres : Hid (bv = true) := by
        show _ = _
        rw [hbv.out]
        have := hall.out
        rwa [hin, hn0.out, List.take_length] at this
      subst hin
      have hlt3 : ¬ ((i : Int) < (i : Int)) := by omega
      go_wp2
      all_goals first | omega | skip
      go_ret
      rw [hres.out]
      exact ⟨rfl, hB.out⟩
end Go.Proofs.YtmndccbeddaphaaGreatDoor
/- unit's rightEqus, labels, sortedNames. -/
namespace Go.Proofs.YtmndccbeddaphaaGreatDoor
open Go.ChangeShapes Go.WideShapes Go.ChangeAt Go.RowKit Go.Sort
set_option linter.unusedVariables false
set_option maxRecDepth 100000
def okE (q : List UInt8 × Lin) : Bool := legB (str q.1) && rightF none q.2.terms
structure HeldE (q : List UInt8 × Lin) : Prop where
  name : q.1.length ≤ 1100000
  few : q.2.terms.length ≤ 9000000
  names : ∀ t ∈ q.2.terms, t.name.length ≤ 1100000
theorem three_read {T : TypeId} {w : World} {g : Nat} {v0 v1 v2 : Value} (h : w.heap[g]? = some (.cells #[v0, v1, v2] T (0, 0))) : w.cell? ⟨g, 0, none⟩ = some v0 ∧ w.cell? ⟨g, 1, none⟩ = some v1 ∧ w.cell? ⟨g, 2, none⟩ = some v2 :=
  ⟨(cell_blockT h 0).trans rfl, (cell_blockT h 1).trans rfl, (cell_blockT h 2).trans rfl⟩
set_option maxHeartbeats 4000000 in
theorem rightEqus_any (a : Option Addr) (c : Nat) (l : List (List UInt8 × Lin)) (hl : l.length ≤ 1100000) (hH : ∀ x ∈ l, HeldE x) (w : World) (hI : EqIn w a l) :
    Calls Tryz.prog 60 #[.slice a l.length c] w fun e w' => e = .returned (.bool (l.all okE)) ∧ Below w.heap.size w w' := by
  obtain ⟨n0, hn0⟩ : ∃ n0, n0 = l.length := ⟨_, rfl⟩
  obtain ⟨bv, hbv⟩ : ∃ bv, bv = l.all okE := ⟨_, rfl⟩
  rw [← hn0, ← hbv]
  rw [← hn0] at hl
  replace hn0 := Hid.intro hn0
  replace hbv := Hid.intro hbv
  have hIH := Hid.intro hI
  have hHH := Hid.intro hH
  clear hI hH
  go_enter Tryz.func60, Tryz.ntmps60
  go_wp2
  all_goals first | omega | skip
  go_loopw [7] (fun v7 wr => ∃ i : Nat, i ≤ n0 ∧ v7 = .int .i64 (i : Int) ∧ Hid ((l.take i).all okE = true) ∧ Hid (Below w.heap.size w wr)) (fun v7 wr => n0 - (intOf v7).toNat)
  case atStart => exact ⟨0, by omega, rfl, (by show _ = _; simp), Below.refl _ _⟩
  case round =>
    obtain ⟨i, hi, rfl, hall, hB⟩ := hrel
    by_cases hlt : i < n0
    · obtain ⟨x, hx⟩ : ∃ x, l[i]? = some x := ⟨l[i]'(by rw [← hn0.out]; exact hlt), List.getElem?_eq_getElem _⟩
      rcases hIH.out.below hB.out with h0 | ⟨g, o, rfl, hg, hat⟩
      · rw [h0] at hx; simp at hx
      obtain ⟨va, vc, c0, c1, c2, hTm⟩ := hat i x hx
      have hh := hHH.out x (List.mem_of_getElem? hx)
      have hlt2 : (i : Int) < (n0 : Int) := by omega
      have hnext := Hid.intro (fun (h : okE x = true) => show (l.take (i + 1)).all okE = true by rw [List.take_add_one, hx]; simp [h]; simpa using hall.out)
      have hbad : Hid (okE x = false → bv = false) := fun h => by
        rw [hbv.out, Bool.eq_false_iff]
        intro h2
        rw [List.all_eq_true] at h2
        have := h2 x (List.mem_of_getElem? hx)
        rw [h] at this
        cases this
      unfold okE at hnext hbad
      have hleg := Hid.intro (fun w1 => legal_any (str x.1) (by rw [show (str x.1).size = x.1.length from rfl]; exact hh.name) w1)
      have hbx := heap_alloc_new wr (.cells #[.string (str x.1), .slice va x.2.terms.length vc, .int .u32 x.2.const] 90)
      obtain ⟨b0, b1, b2⟩ := three_read hbx
      have hB1 : Hid (Below w.heap.size w (wr.alloc (.cells #[.string (str x.1), .slice va x.2.terms.length vc, .int .u32 x.2.const] 90))) := hB.out.alloc hB.out.size _
      have hcells : Hid (∀ w1, Below (wr.alloc (.cells #[.string (str x.1), .slice va x.2.terms.length vc, .int .u32 x.2.const] 90)).heap.size (wr.alloc (.cells #[.string (str x.1), .slice va x.2.terms.length vc, .int .u32 x.2.const] 90)) w1 → w1.cell? ⟨wr.heap.size, 1, none⟩ = some (.slice va x.2.terms.length vc) ∧ w1.cell? ⟨wr.heap.size, 2, none⟩ = some (.int .u32 x.2.const) ∧ Calls Tryz.prog 103 #[linV (.slice va x.2.terms.length vc) x.2.const] w1 fun e w' => e = .returned (.bool (rightF none x.2.terms)) ∧ Below w1.heap.size w1 w') := fun w1 h1 => by
        have h2 := (h1.block wr.heap.size (by simp)).trans hbx
        obtain ⟨_, e1, e2⟩ := three_read h2
        exact ⟨e1, e2, right_any va vc x.2.terms x.2.const w1 ((hTm.below (below_alloc wr _) (Nat.le_refl _)).below h1 (Nat.le_refl _)) hh.few hh.names⟩
      clear hbx hx hh hTm hat
      generalize legB (str x.1) = lg at hleg hnext hbad
      generalize rightF none x.2.terms = rt at hcells hnext hbad
      generalize x.2.terms.length = ln at *
      generalize x.2.const = cn at *
      cases lg with
      | true =>
        cases rt with
        | true =>
          go_wp2_with (first | (go_at_call 102; (with_reducible refine (hleg.out _).mono ?_); rintro e w1 ⟨rfl, hb1⟩; obtain ⟨d1, d2, hrt⟩ := hcells.out w1 hb1; replace hrt := Hid.intro hrt; replace hb1 := Hid.intro hb1) | (go_at_call 103; (with_reducible refine (hrt.out).mono ?_); rintro e w2 ⟨rfl, hb2⟩))
          all_goals first | omega | skip
          go_roundw
          case rel => exact ⟨i + 1, by omega, by go_num, hnext.out (by simp), (hB1.out.trans (hb1.out.mono hB1.out.size)).trans (hb2.mono (Nat.le_trans hB1.out.size hb1.out.size))⟩
          case measure => simp [intOf]; omega
        | false =>
          go_wp2_with (first | (go_at_call 102; (with_reducible refine (hleg.out _).mono ?_); rintro e w1 ⟨rfl, hb1⟩; obtain ⟨d1, d2, hrt⟩ := hcells.out w1 hb1; replace hrt := Hid.intro hrt; replace hb1 := Hid.intro hb1) | (go_at_call 103; (with_reducible refine (hrt.out).mono ?_); rintro e w2 ⟨rfl, hb2⟩))
          all_goals first | omega | skip
          go_ret
          rw [hbad.out (by simp)]
          exact ⟨rfl, (hB1.out.trans (hb1.out.mono hB1.out.size)).trans (hb2.mono (Nat.le_trans hB1.out.size hb1.out.size))⟩
      | false =>
        go_wp2_with (first | (go_at_call 102; (with_reducible refine (hleg.out _).mono ?_); rintro e w1 ⟨rfl, hb1⟩))
        all_goals first | omega | skip
        go_ret
        rw [hbad.out (by simp)]
        exact ⟨rfl, hB1.out.trans (hb1.mono hB1.out.size)⟩
    · have hin : i = n0 := by omega
      have hres : Hid (bv = true) := by
        show _ = _
        rw [hbv.out]
        have := hall.out
        rwa [hin, hn0.out, List.take_length] at this
      subst hin
      have hlt3 : ¬ ((i : Int) < (i : Int)) := by omega
      go_wp2
      all_goals first | omega | skip
      go_ret
      rw [hres.out]
      exact ⟨rfl, hB.out⟩
def labN (l : List Itm) : List (List UInt8) := (l.filter fun x => x.kind == 1).map (·.name)
theorem labN_take (l : List Itm) (i : Nat) (x : Itm) (hx : l[i]? = some x) : labN (l.take (i + 1)) = labN (l.take i) ++ if x.kind = 1 then [x.name] else [] := by
  unfold labN
  rw [List.take_add_one, hx, List.filter_append, List.map_append]
  by_cases h : x.kind = 1 <;> simp [h]
theorem labN_len (l : List Itm) : (labN l).length ≤ l.length := by
  unfold labN
  rw [List.length_map]
  exact List.length_filter_le _ _
structure NmS (w0 : World) (ga : Option Addr) (gc : Nat) (ns : List (List UInt8)) (n : Nat) (wr : World) : Prop where
  bel : Below w0.heap.size w0 wr
  own : wr.ownsRow w0.heap.size 9 1 (.slice ga n gc) n (ns.map encStr)
theorem NmS.len {w0 : World} {ga : Option Addr} {gc : Nat} {ns : List (List UInt8)} {n : Nat} {wr : World} (h : NmS w0 ga gc ns n wr) : n = ns.length := by
  have := h.own.1
  simp at this
  omega
theorem NmS.below {w0 : World} {ga : Option Addr} {gc : Nat} {ns : List (List UInt8)} {n : Nat} {wr w' : World} (h : NmS w0 ga gc ns n wr) (hb : Below wr.heap.size wr w') : NmS w0 ga gc ns n w' := ⟨h.bel.trans (hb.mono h.bel.size), own_keptB h.own hb⟩
theorem NmS.push {w0 : World} {ga : Option Addr} {gc : Nat} {ns : List (List UInt8)} {n : Nat} {wr w3 : World} (h : NmS w0 ga gc ns n wr) {s : List UInt8} {v' : Value} (ho : w3.ownsRow w0.heap.size 9 1 v' (n + 1) (ns.map encStr ++ [encStr s])) (hg : wr.grownBy w3 (Value.slice ga n gc).ownBlock) : ∃ a' c', v' = .slice a' (n + 1) c' ∧ NmS w0 a' c' (ns ++ [s]) (n + 1) w3 := by
  obtain ⟨a', c', rfl⟩ := own_slice ho
  exact ⟨a', c', rfl, h.bel.grown hg h.bel.size (fun j hj => (h.own.lt _ hj).1), by rw [List.map_append]; exact ho⟩
set_option maxHeartbeats 4000000 in
theorem labels_any (w0 : World) (ga : Option Addr) (gc n : Nat) (ns : List (List UInt8)) (a : Option Addr) (c : Nat) (l : List Itm) (hl : l.length ≤ 1100000) (hns : n ≤ 1100000) (w : World) (hv : NmS w0 ga gc ns n w) (hI : ItIn w0 a l) :
    Calls Tryz.prog 104 #[.slice ga n gc, .slice a l.length c] w fun e w' => ∃ a' c' k, e = .returned (.slice a' k c') ∧ NmS w0 a' c' (ns ++ labN l) k w' := by
  obtain ⟨n0, hn0⟩ : ∃ n0, n0 = l.length := ⟨_, rfl⟩
  rw [← hn0]
  rw [← hn0] at hl
  replace hn0 := Hid.intro hn0
  have hvH := Hid.intro hv
  have hIH := Hid.intro hI
  obtain ⟨i0, hi9, hz0, hz1, hz2⟩ := info_parts info9
  clear hv hI
  go_enter Tryz.func104, Tryz.ntmps104
  go_wp2
  all_goals first | omega | skip
  go_loopw [0, 9] (fun v0 v9 wr => ∃ (i : Nat) (ha : Option Addr) (hc k : Nat), i ≤ n0 ∧ k ≤ n + i ∧ v0 = .slice ha k hc ∧ v9 = .int .i64 (i : Int) ∧ Hid (NmS w0 ha hc (ns ++ labN (l.take i)) k wr)) (fun v0 v9 wr => n0 - (intOf v9).toNat)
  case atStart => exact ⟨0, ga, gc, n, by omega, by omega, rfl, rfl, by show NmS _ _ _ _ _ _; simpa [labN] using hvH.out⟩
  case round =>
    clear hvH
    obtain ⟨i, ha, hc, k, hi, hk, rfl, rfl, hS⟩ := hrel
    by_cases hlt : i < n0
    · obtain ⟨x, hx⟩ : ∃ x, l[i]? = some x := ⟨l[i]'(by rw [← hn0.out]; exact hlt), List.getElem?_eq_getElem _⟩
      rcases hIH.out.below hS.out.bel with h0 | ⟨g, o, rfl, hg, hat⟩
      · rw [h0] at hx; simp at hx
      obtain ⟨va, vc, hI, hTm⟩ := hat i x hx
      obtain ⟨c0, c1, c2, c3, c4, c5, c6, c7, c8, c9⟩ := hI
      have hlt2 : (i : Int) < (n0 : Int) := by omega
      have hnext := labN_take l i x hx
      have hbx := heap_alloc_new wr (.cells (itmCells x (.slice va x.e.terms.length vc)) 86)
      obtain ⟨b0, b1, b2, b3, b4, b5, b6, b7, b8, b9⟩ := rowIt hbx
      have hS1 := Hid.intro (hS.out.below (below_alloc wr (.cells (itmCells x (.slice va x.e.terms.length vc)) 86)))
      have hs1 : (wr.alloc (.cells (itmCells x (.slice va x.e.terms.length vc)) 86)).heap.size = wr.heap.size + 1 := by simp
      clear hbx hx hTm hat hg
      generalize x.e.terms.length = ln at *
      by_cases hk1 : x.kind = 1
      · have e1 : (x.kind == 1) = true := by simpa using hk1
        rw [if_pos hk1] at hnext
        replace hnext : Hid (ns ++ labN (l.take (i + 1)) = (ns ++ labN (l.take i)) ++ [x.name]) := by show _ = _; rw [hnext, List.append_assoc]
        generalize hwa : wr.alloc (.cells (itmCells x (.slice va ln vc)) 86) = wa at *
        have hS2 := Hid.intro (hS1.out.below (below_alloc wa (.cells #[.string (str x.name)] 9)))
        have hsrc : Hid (Src (wa.alloc (.cells #[.string (str x.name)] 9)) (.slice (some ⟨wr.heap.size + 1, 0, none⟩) 1 1) 1 [encStr x.name]) := by
          rw [← hs1]
          exact .inr ⟨_, _, rfl, cells_new wa #[.string (str x.name)] 9⟩
        have hbase : w0.heap.size ≤ (wa.alloc (.cells #[.string (str x.name)] 9)).heap.size := hS2.out.bel.size
        clear hk1 b2 b3 b4 b5 b6 b7 b8 b9 hs1
        subst hwa
        go_wp2_with (at_builtin; go_must (refine wpList_app rfl (.tmp 16) (.tmp 19) 28 rfl w0.heap.size 9 i0 _ 1 16 Tryz.underlying28 hi9 hz0 hz1 hz2 rfl (by decide) (.slice ha k hc) k _ rfl hS2.out.own (.slice (some ⟨_, 0, none⟩) 1 1) 1 [encStr x.name] rfl hsrc.out rfl (by simp [Value.oneCell', encStr]) (by unfold maxLen; omega) (by omega) hbase ?_; intro v' w3 ho hg hw; obtain ⟨a', c', rfl, hN⟩ := hS2.out.push ho hg; replace hN := Hid.intro hN; clear ho hg hw))
        all_goals first | omega | skip
        go_roundw
        case rel => exact ⟨i + 1, a', c', k + 1, by omega, by omega, rfl, by go_num, by show NmS _ _ _ _ _ _; rw [hnext.out]; exact hN.out⟩
        case measure => simp [intOf]; omega
      · have e1 : (x.kind == 1) = false := by simpa using hk1
        rw [if_neg hk1, List.append_nil] at hnext
        replace hnext := Hid.intro hnext
        clear hk1 b1 b2 b3 b4 b5 b6 b7 b8 b9
        go_wp2
        all_goals first | omega | skip
        go_roundw
        case rel => exact ⟨i + 1, ha, hc, k, by omega, by omega, rfl, by go_num, by show NmS _ _ _ _ _ _; rw [hnext.out]; exact hS1.out⟩
        case measure => simp [intOf]; omega
    · have hin : i = n0 := by omega
      subst hin
      have hlt3 : ¬ ((i : Int) < (i : Int)) := by omega
      go_wp2
      all_goals first | omega | skip
      go_ret
      have := hS.out
      rw [hn0.out, List.take_length] at this
      exact ⟨ha, hc, k, rfl, this⟩
structure UVal where
  text : List Itm
  data : List Itm
  equs : List (List UInt8 × Lin)
  globs : List (List UInt8)
def UVal.names (u : UVal) : List (List UInt8) := labN u.text ++ labN u.data ++ u.equs.map (·.1)
structure HeldU (u : UVal) : Prop where
  text : u.text.length ≤ 1100000 ∧ ∀ x ∈ u.text, HeldI x
  data : u.data.length ≤ 1100000 ∧ ∀ x ∈ u.data, HeldI x
  equs : u.equs.length ≤ 1100000 ∧ ∀ q ∈ u.equs, HeldE q
  globs : u.globs.length ≤ 1100000
structure UnitIn (w : World) (ta : Option Addr) (da : Option Addr) (ea : Option Addr) (ga : Option Addr) (u : UVal) : Prop where
  text : ItIn w ta u.text
  data : ItIn w da u.data
  equs : EqIn w ea u.equs
  globs : StIn w ga u.globs
theorem UnitIn.below {w w' : World} {ta da ea ga : Option Addr} {u : UVal} (h : UnitIn w ta da ea ga u) (hb : Below w.heap.size w w') : UnitIn w' ta da ea ga u := ⟨h.text.below hb, h.data.below hb, h.equs.below hb, h.globs.below hb⟩
abbrev unitV (ta : Option Addr) (tc : Nat) (da : Option Addr) (dc : Nat) (ea : Option Addr) (ec : Nat) (ga : Option Addr) (gc : Nat) (u : UVal) : Array Value := unit4 (.slice ta u.text.length tc) (.slice da u.data.length dc) (.slice ea u.equs.length ec) (.slice ga u.globs.length gc)
set_option maxHeartbeats 4000000 in
theorem sortedNames_any (ta : Option Addr) (tc : Nat) (da : Option Addr) (dc : Nat) (ea : Option Addr) (ec : Nat) (ga : Option Addr) (gc : Nat) (u : UVal) (hu : HeldU u) (w : World) (hI : UnitIn w ta da ea ga u) :
    Calls Tryz.prog 61 #[.agg (unitV ta tc da dc ea ec ga gc u)] w fun e w' => ∃ a' c', e = .returned (.slice a' (sortS u.names).length c') ∧ NmS w a' c' (sortS u.names) (sortS u.names).length w' := by
  have hB0 : Below w.heap.size w (w.alloc (.cells (unitV ta tc da dc ea ec ga gc u) 30)) := below_alloc w _
  have hbx := heap_alloc_new w (.cells (unitV ta tc da dc ea ec ga gc u) 30)
  have hI0 := hI.below hB0
  obtain ⟨c0, c1, c2, c3⟩ := four_read hbx
  have hlt := labN_len u.text
  have hld := labN_len u.data
  have hh1 := hu.text.1
  have hh2 := hu.data.1
  have hh3 := hu.equs.1
  generalize hW : w.alloc (.cells (unitV ta tc da dc ea ec ga gc u) 30) = W0 at *
  have hws : W0.heap.size = w.heap.size + 1 := by rw [← hW]; simp
  have hne : Hid (NmS W0 none 0 [] 0 W0) := ⟨Below.refl _ _, World.ownsRow_nil _ _ _ _⟩
  have hl1 := Hid.intro (labels_any W0 none 0 0 [] ta tc u.text hu.text.1 (by omega) _ hne.out hI0.text)
  have hl2 := Hid.intro (fun ga1 gc1 k w1 (hk : k ≤ 1100000) (h1 : NmS W0 ga1 gc1 ([] ++ labN u.text) k w1) => labels_any W0 ga1 gc1 k _ da dc u.data hu.data.1 hk w1 h1 hI0.data)
  have hcells : Hid (∀ w1, Below W0.heap.size W0 w1 → w1.cell? ⟨w.heap.size, 1, none⟩ = some (.slice da u.data.length dc) ∧ w1.cell? ⟨w.heap.size, 2, none⟩ = some (.slice ea u.equs.length ec)) := fun w1 h1 => ⟨(h1.cell (p := ⟨w.heap.size, 1, none⟩) (by show w.heap.size < _; omega)).trans c1, (h1.cell (p := ⟨w.heap.size, 2, none⟩) (by show w.heap.size < _; omega)).trans c2⟩
  obtain ⟨i0, hi9, hz0, hz1, hz2⟩ := info_parts info9
  have hIH := Hid.intro hI0
  have hB0H := Hid.intro hB0
  obtain ⟨n0, hn0⟩ : ∃ n0, n0 = u.equs.length := ⟨_, rfl⟩
  have hnl : u.names.length ≤ u.text.length + u.data.length + u.equs.length := by
    unfold UVal.names
    simp
    omega
  obtain ⟨lt0, hlt0⟩ : ∃ lt0, lt0 = u.text.length := ⟨_, rfl⟩
  obtain ⟨ld0, hld0⟩ : ∃ ld0, ld0 = u.data.length := ⟨_, rfl⟩
  have hkt : Hid (([] ++ labN u.text).length ≤ 1100000) := by show _ ≤ _; simp; omega
  have hkd : Hid (([] ++ labN u.text ++ labN u.data).length ≤ 2200000) := by show _ ≤ _; simp; omega
  replace hnl := Hid.intro hnl
  clear hI hI0 hbx hB0 hne hlt hld c1 c2 c3
  rw [← hn0] at hh3 hcells
  replace hh1 := Hid.intro hh1
  replace hh2 := Hid.intro hh2
  replace hn0 := Hid.intro hn0
  go_enter Tryz.func61, Tryz.ntmps61
  subst hW
  go_upto_region 3 with (first
    | (go_at_call 104; (with_reducible refine (hl1.out).mono ?_); rintro e w1 ⟨a1, k1, n1, rfl, hN1⟩; obtain ⟨d1, d2⟩ := hcells.out w1 hN1.bel; have hn1 := hN1.len; clear hl1; replace hN1 := Hid.intro hN1; replace hn1 := Hid.intro hn1)
    | (go_at_call 104; (with_reducible refine (hl2.out a1 k1 n1 w1 (by rw [hn1.out]; exact hkt.out) hN1.out).mono ?_); rintro e w2 ⟨a2, k2, n2, rfl, hN2⟩; obtain ⟨f1, f2⟩ := hcells.out w2 hN2.bel; have hn2 := Hid.intro hN2.len; replace hN2 := Hid.intro hN2))
  all_goals first | omega | skip
  clear hl2 hcells c0 d1 d2 f1 hlt0 hld0
  generalize hW : w.alloc (.cells (unitV ta tc da dc ea ec ga gc u) 30) = W0 at *
  go_wp2
  all_goals first | omega | skip
  clear f2
  have hkd2 : n2 ≤ 2200000 := by rw [hn2.out]; exact hkd.out
  go_loopw [3, 16] (fun v3 v16 wr => ∃ (i : Nat) (ha : Option Addr) (hc k : Nat), i ≤ n0 ∧ k ≤ n2 + i ∧ v3 = .slice ha k hc ∧ v16 = .int .i64 (i : Int) ∧ Hid (NmS W0 ha hc ([] ++ labN u.text ++ labN u.data ++ (u.equs.take i).map (·.1)) k wr)) (fun v3 v16 wr => n0 - (intOf v16).toNat)
  case atStart => exact ⟨0, a2, k2, n2, by omega, by omega, rfl, rfl, by show NmS _ _ _ _ _ _; simpa using hN2.out⟩
  case round =>
    clear hN2 hN1
    obtain ⟨i, ha, hc, k, hi, hk, rfl, rfl, hS⟩ := hrel
    by_cases hlt : i < n0
    · obtain ⟨q, hq⟩ : ∃ q, u.equs[i]? = some q := ⟨u.equs[i]'(by rw [← hn0.out]; exact hlt), List.getElem?_eq_getElem _⟩
      rcases hIH.out.equs.below hS.out.bel with h0 | ⟨g, o, rfl, hg, hat⟩
      · rw [h0] at hq; simp at hq
      obtain ⟨va, vc, c0, c1, c2, hTm⟩ := hat i q hq
      have hlt2 : (i : Int) < (n0 : Int) := by omega
      have hnext : Hid ([] ++ labN u.text ++ labN u.data ++ (u.equs.take (i + 1)).map (·.1) = ([] ++ labN u.text ++ labN u.data ++ (u.equs.take i).map (·.1)) ++ [q.1]) := by show _ = _; rw [List.take_add_one, hq]; simp
      have hbx := heap_alloc_new wr (.cells #[.string (str q.1), .slice va q.2.terms.length vc, .int .u32 q.2.const] 90)
      obtain ⟨b0, b1, b2⟩ := three_read hbx
      have hS1 := Hid.intro (hS.out.below (below_alloc wr (.cells #[.string (str q.1), .slice va q.2.terms.length vc, .int .u32 q.2.const] 90)))
      have hs1 : (wr.alloc (.cells #[.string (str q.1), .slice va q.2.terms.length vc, .int .u32 q.2.const] 90)).heap.size = wr.heap.size + 1 := by simp
      clear hbx hq hTm hat hg
      generalize q.2.terms.length = ln at *
      generalize q.2.const = cn at *
      generalize hwa : wr.alloc (.cells #[.string (str q.1), .slice va ln vc, .int .u32 cn] 90) = wa at *
      have hS2 := Hid.intro (hS1.out.below (below_alloc wa (.cells #[.string (str q.1)] 9)))
      have hsrc : Hid (Src (wa.alloc (.cells #[.string (str q.1)] 9)) (.slice (some ⟨wr.heap.size + 1, 0, none⟩) 1 1) 1 [encStr q.1]) := by
        rw [← hs1]
        exact .inr ⟨_, _, rfl, cells_new wa #[.string (str q.1)] 9⟩
      have hbase : W0.heap.size ≤ (wa.alloc (.cells #[.string (str q.1)] 9)).heap.size := hS2.out.bel.size
      clear b1 b2 hs1
      subst hwa
      go_wp2_with (at_builtin; go_must (refine wpList_app rfl (.tmp 20) (.tmp 23) 28 rfl W0.heap.size 9 i0 _ 1 16 Tryz.underlying28 hi9 hz0 hz1 hz2 rfl (by decide) (.slice ha k hc) k _ rfl hS2.out.own (.slice (some ⟨_, 0, none⟩) 1 1) 1 [encStr q.1] rfl hsrc.out rfl (by simp [Value.oneCell', encStr]) (by unfold maxLen; omega) (by omega) hbase ?_; intro v' w3 ho hg hw; obtain ⟨a', c', rfl, hN⟩ := hS2.out.push ho hg; replace hN := Hid.intro hN; clear ho hg hw))
      all_goals first | omega | skip
      go_roundw
      case rel => exact ⟨i + 1, a', c', k + 1, by omega, by omega, rfl, by go_num, by show NmS _ _ _ _ _ _; rw [hnext.out]; exact hN.out⟩
      case measure => simp [intOf]; omega
    · obtain rfl : i = n0 := by omega
      have hlt3 : ¬ ((i : Int) < (i : Int)) := by omega
      have hns : [] ++ labN u.text ++ labN u.data ++ (u.equs.take i).map (·.1) = u.names := by rw [hn0.out, List.take_length]; rfl
      rw [hns] at hS
      have hkl := hS.out.len
      have hsrt := sortS_any (.slice ha k hc) u.names W0.heap.size wr (by omega) (by have := hS.out.own; rw [← hkl]; exact this)
      have hsort := Hid.intro hsrt
      replace hkl := Hid.intro hkl
      clear hns hsrt
      go_wp2_with (go_at_call 105; (with_reducible refine (hsort.out).mono ?_); rintro e w3 ⟨rfl, ho3, hg3⟩)
      all_goals first | omega | skip
      go_ret
      have hl3 := sortS_len u.names
      have e3 : (sortS u.names).length = k := by rw [hl3, hkl.out]
      rw [e3]
      refine ⟨ha, hc, rfl, ?_, ?_⟩
      · exact (hB0H.out.trans (hS.out.bel.mono hB0H.out.size)).grown hg3 (Nat.le_trans hB0H.out.size hS.out.bel.size) (fun j hj => Nat.le_trans hB0H.out.size (hS.out.own.lt _ hj).1)
      · rw [hkl.out]
        rw [hkl.out] at ho3
        exact own_weaken ho3 hB0H.out.size
end Go.Proofs.YtmndccbeddaphaaGreatDoor
namespace Go.Proofs.YtmndccbeddaphaaGreatDoor
open Go.ChangeShapes Go.WideShapes Go.ChangeAt Go.RowKit Go.Sort
set_option linter.unusedVariables false
set_option maxRecDepth 100000
theorem lt_nlt (x y : List UInt8) : (x < y) ↔ nlt x y = true := by
  have := bytesLess_eq x y
  unfold nlt
  rw [this]
  simp
theorem le_nlt (x y : List UInt8) : (x ≤ y) ↔ nlt y x = false := by
  show ¬ (y < x) ↔ _
  rw [lt_nlt]
  simp
def Rise (ns : List (List UInt8)) : Prop := ns.Pairwise fun x y => nlt y x = false
theorem nlt_le_trans {x y z : List UInt8} (h1 : nlt y x = false) (h2 : nlt z y = false) : nlt z x = false := by
  rcases nlt_tri x y with h | h | h
  · rcases nlt_tri y z with g | g | g
    · exact nlt_asymm (nlt_trans h g)
    · subst g; exact nlt_asymm h
    · rw [g] at h2; cases h2
  · subst h; exact h2
  · rw [h] at h1; cases h1
theorem sortS_rise (ss : List (List UInt8)) : Rise (sortS ss) := by
  have h := List.pairwise_mergeSort (le := fun x y : List UInt8 => decide (x ≤ y)) (fun a b c h1 h2 => by
    simp only [decide_eq_true_eq, le_nlt] at h1 h2 ⊢
    exact nlt_le_trans h1 h2) (fun a b => by
    simp only [Bool.or_eq_true, decide_eq_true_eq, le_nlt]
    rcases nlt_tri a b with h | h | h
    · exact .inl (nlt_asymm h)
    · subst h; exact .inl (nlt_irrefl _)
    · exact .inr (nlt_asymm h)) ss
  exact h.imp fun h => by simpa only [decide_eq_true_eq, le_nlt] using h
theorem rise_get {ns : List (List UInt8)} (h : Rise ns) {i j : Nat} (hij : i < j) {x y : List UInt8} (hx : ns[i]? = some x) (hy : ns[j]? = some y) : nlt y x = false := by
  obtain ⟨hi, rfl⟩ := List.getElem?_eq_some_iff.1 hx
  obtain ⟨hj, rfl⟩ := List.getElem?_eq_some_iff.1 hy
  exact (List.pairwise_iff_getElem.1 h) i j hi hj hij
def headN (ns : List (List UInt8)) (g : List UInt8) : Nat := (ns.takeWhile fun x => nlt x g).length
theorem headN_lt {ns : List (List UInt8)} {g : List UInt8} {t : Nat} (ht : t < headN ns g) {x : List UInt8} (hx : ns[t]? = some x) : nlt x g = true := by
  unfold headN at ht
  induction ns generalizing t with
  | nil => simp at ht
  | cons y r ih =>
    by_cases hy : nlt y g = true
    · rw [List.takeWhile_cons, if_pos hy] at ht
      cases t with
      | zero => simp at hx; subst hx; exact hy
      | succ t => simp at hx ht; exact ih ht hx
    · rw [List.takeWhile_cons, if_neg hy] at ht
      simp at ht
theorem headN_le (ns : List (List UInt8)) (g : List UInt8) : headN ns g ≤ ns.length := (List.takeWhile_sublist _).length_le
theorem headN_at {ns : List (List UInt8)} {g : List UInt8} {x : List UInt8} (hx : ns[headN ns g]? = some x) : nlt x g = false := by
  unfold headN at hx
  induction ns with
  | nil => simp at hx
  | cons y r ih =>
    by_cases hy : nlt y g = true
    · rw [List.takeWhile_cons, if_pos hy] at hx
      simp at hx
      exact ih hx
    · rw [List.takeWhile_cons, if_neg hy] at hx
      simp at hx
      subst hx
      simpa using hy
theorem headN_ge {ns : List (List UInt8)} (h : Rise ns) {g : List UInt8} {t : Nat} (ht : headN ns g ≤ t) {x : List UInt8} (hx : ns[t]? = some x) : nlt x g = false := by
  have hlt := (List.getElem?_eq_some_iff.1 hx).1
  have h0 : ns[headN ns g]? = some (ns[headN ns g]'(by omega)) := List.getElem?_eq_getElem _
  have h1 := headN_at h0
  rcases Nat.eq_or_lt_of_le ht with e | e
  · subst e
    rw [h0] at hx
    cases hx
    exact h1
  · exact nlt_le_trans h1 (rise_get h e h0 hx)
theorem found_iff {ns : List (List UInt8)} (h : Rise ns) (g : List UInt8) : (headN ns g < ns.length ∧ ns[headN ns g]? = some g) ↔ g ∈ ns := by
  constructor
  · rintro ⟨_, h2⟩
    exact List.mem_of_getElem? h2
  · intro hm
    obtain ⟨i, hi⟩ := List.mem_iff_getElem?.1 hm
    have hil := (List.getElem?_eq_some_iff.1 hi).1
    have hge : headN ns g ≤ i := by
      rcases Nat.lt_or_ge i (headN ns g) with h1 | h1
      · have := headN_lt h1 hi
        rw [nlt_irrefl] at this
        cases this
      · exact h1
    have hlt : headN ns g < ns.length := by omega
    have h0 : ns[headN ns g]? = some (ns[headN ns g]) := List.getElem?_eq_getElem hlt
    have h1 := headN_at h0
    have h2 : nlt g (ns[headN ns g]) = false := by
      rcases Nat.eq_or_lt_of_le hge with e | e
      · have : ns[headN ns g]? = some g := by rw [e]; exact hi
        rw [h0] at this
        injection this with this
        rw [this]
        exact nlt_irrefl _
      · exact rise_get h e h0 hi
    refine ⟨hlt, ?_⟩
    rw [h0]
    rcases nlt_tri (ns[headN ns g]) g with e | e | e
    · rw [e] at h1; cases h1
    · rw [e]
    · rw [e] at h2; cases h2
theorem search_any (a : Option Addr) (c : Nat) (ns : List (List UInt8)) (g : List UInt8) (hl : ns.length ≤ 9000000) (hR : Rise ns) (w : World) (hS : StIn w a ns) :
    Calls Tryz.prog 106 #[.slice a ns.length c, .string (str g)] w fun e w' => (∃ k : Int, e = .returned (.tuple #[.int .i64 k, .bool (decide (g ∈ ns))])) ∧ Below w.heap.size w w' := by
  rcases hS with h0 | ⟨b, o, rfl, hb, hat⟩
  · subst h0
    refine (Any2.slices_BinarySearch_string_empty Tryz.laysSearch a c (str g) w).mono ?_
    rintro e w' ⟨rfl, rfl⟩
    exact ⟨⟨0, by simp⟩, Below.refl _ _⟩
  · have hc : ∀ j, j < ns.length → w.cell? ⟨b, o + j, none⟩ = some (.string (if h : j < ns.length then str ns[j] else str g)) := fun j hj => by
      rw [dif_pos hj]
      exact hat j _ (List.getElem?_eq_getElem hj)
    refine (Any2.slices_BinarySearch_string Tryz.laysSearch b o ns.length c (fun j => if h : j < ns.length then str ns[j] else str g) (str g) w (by omega) hc).mono ?_
    rintro e w' ⟨rfl, q, rfl⟩
    have hless : (fun t => Op.bytesLess (if h : t < ns.length then str ns[t] else str g).toList (str g).toList) = fun t => (if h : t < ns.length then nlt ns[t] g else false) := by
      funext t
      by_cases ht : t < ns.length
      · rw [dif_pos ht, dif_pos ht, str_toList, str_toList]; rfl
      · rw [dif_neg ht, dif_neg ht]
        exact nlt_irrefl _
    have hgo : Lib.bsGo (fun t => Op.bytesLess (if h : t < ns.length then str ns[t] else str g).toList (str g).toList) ns.length 0 ns.length = headN ns g := by
      rw [hless]
      refine Lib.bsGo_spec _ (headN ns g) (fun t ht => ?_) (fun t ht => ?_) _ _ _ (by omega) (Nat.zero_le _) (headN_le ns g)
      · have := headN_le ns g
        rw [dif_pos (by omega)]
        exact headN_lt ht (List.getElem?_eq_getElem (by omega))
      · by_cases h2 : t < ns.length
        · rw [dif_pos h2]
          exact headN_ge hR ht (List.getElem?_eq_getElem h2)
        · rw [dif_neg h2]
    rw [hgo]
    have hdec : decide (headN ns g < ns.length ∧ (if h : headN ns g < ns.length then str ns[headN ns g] else str g) = str g) = decide (g ∈ ns) := by
     rw [decide_eq_decide, ← found_iff hR g]
     constructor
     · rintro ⟨h1, h2⟩
       rw [dif_pos h1] at h2
       refine ⟨h1, ?_⟩
       rw [List.getElem?_eq_getElem h1]
       have := congrArg ByteArray.toList h2
       rw [str_toList, str_toList] at this
       rw [this]
     · rintro ⟨h1, h2⟩
       refine ⟨h1, ?_⟩
       rw [dif_pos h1]
       rw [List.getElem?_eq_getElem h1] at h2
       injection h2 with h2
       rw [h2]
    rw [hdec]
    exact ⟨⟨_, rfl⟩, below_drewN (Below.refl _ _) q⟩
def Twice (l : List (List UInt8)) : Prop := ∃ i s, l[i]? = some s ∧ l[i + 1]? = some s
theorem StIn.at {w : World} {a : Option Addr} {l : List (List UInt8)} (h : StIn w a l) {i : Nat} {s : List UInt8} (hi : l[i]? = some s) : ∃ g o, a = some ⟨g, o, none⟩ ∧ g < w.heap.size ∧ ∀ (i : Nat) (s : List UInt8), l[i]? = some s → w.cell? ⟨g, o + i, none⟩ = some (.string (str s)) := by
  rcases h with h0 | h
  · subst h0; simp at hi
  · exact h
set_option maxHeartbeats 4000000 in
theorem hasTwice_any (a : Option Addr) (c : Nat) (l : List (List UInt8)) (hl : l.length ≤ 9000000) (w : World) (hS : StIn w a l) :
    Calls Tryz.prog 62 #[.slice a l.length c] w fun e w' => (∃ bv, e = .returned (.bool bv) ∧ (bv = true ↔ Twice l)) ∧ Below w.heap.size w w' := by
  obtain ⟨n0, hn0⟩ : ∃ n0, n0 = l.length := ⟨_, rfl⟩
  rw [← hn0]
  rw [← hn0] at hl
  replace hn0 := Hid.intro hn0
  have hSH := Hid.intro hS
  clear hS
  go_enter Tryz.func62, Tryz.ntmps62
  go_wp2
  all_goals first | omega | skip
  go_loopw [3] (fun v3 wr => ∃ i : Nat, 1 ≤ i ∧ (i ≤ n0 ∨ i = 1) ∧ v3 = .int .i64 (i : Int) ∧ Hid (∀ j s, j + 1 < i → l[j]? = some s → l[j + 1]? ≠ some s) ∧ Hid (Below w.heap.size w wr)) (fun v3 wr => n0 - (intOf v3).toNat)
  case atStart => exact ⟨1, by omega, .inr rfl, rfl, fun j s hj => by omega, Below.refl _ _⟩
  case round =>
    obtain ⟨i, hi1, hi, rfl, hall, hB⟩ := hrel
    by_cases hlt : i < n0
    · obtain ⟨x, hx⟩ : ∃ x, l[i]? = some x := ⟨l[i]'(by rw [← hn0.out]; exact hlt), List.getElem?_eq_getElem _⟩
      obtain ⟨y, hy⟩ : ∃ y, l[i - 1]? = some y := ⟨l[i - 1]'(by rw [← hn0.out]; omega), List.getElem?_eq_getElem _⟩
      obtain ⟨g, o, rfl, hg, hat⟩ := (hSH.out.below hB.out).at hx
      have c0 := hat i x hx
      have c1 := hat (i - 1) y hy
      have hlt2 : (i : Int) < (n0 : Int) := by omega
      have q1 : IntKind.i64.wrap ((i : Int) - 1) = ((i - 1 : Nat) : Int) := by rw [IntKind.wrap_i64]; omega
      have z1 : ((i - 1 : Nat) : Int) < (n0 : Int) := by omega
      have hxH := Hid.intro hx
      have hyH := Hid.intro hy
      have z0 : (0 : Int) ≤ (i : Int) := by omega
      have z2 : (0 : Int) ≤ ((i - 1 : Nat) : Int) := by omega
      have q2 : (i : Int) - 1 = ((i - 1 : Nat) : Int) := by omega
      clear hat hx hy
      obtain ⟨i1, hi1d⟩ : ∃ i1, i1 = i - 1 := ⟨_, rfl⟩
      rw [← hi1d] at c1 q1 z1 z2 q2 hyH
      replace hi1d := Hid.intro hi1d
      by_cases he : x = y
      · have e1 : ((str x).toList == (str y).toList) = true := by rw [he]; simp
        have htw : Hid (Twice l) := by
          refine ⟨i1, y, hyH.out, ?_⟩
          rw [show i1 + 1 = i by rw [hi1d.out]; omega, hxH.out, he]
        clear he
        go_wp2
        all_goals first | omega | skip
        go_quiet (fail)
        all_goals first | omega | skip
        go_wp2
        all_goals first | omega | skip
        go_ret
        exact ⟨⟨true, rfl, by simp [htw.out]⟩, below_drewN hB.out nq⟩
      · have e1 : ((str x).toList == (str y).toList) = false := by rw [str_toList, str_toList]; exact beq_false_of_ne he
        have hnext : Hid (∀ j s, j + 1 < i + 1 → l[j]? = some s → l[j + 1]? ≠ some s) := fun j s hj h1 h2 => by
          rcases Nat.lt_or_ge (j + 1) i with h3 | h3
          · exact hall.out j s h3 h1 h2
          · have e2 : j = i1 := by have := hi1d.out; omega
            subst e2
            rw [hyH.out] at h1
            cases h1
            rw [show j + 1 = i by omega, hxH.out] at h2
            cases h2
            exact he rfl
        clear he
        go_wp2
        all_goals first | omega | skip
        go_quiet (fail)
        all_goals first | omega | skip
        go_wp2
        all_goals first | omega | skip
        go_roundw
        case rel => exact ⟨i + 1, by omega, .inl (by omega), by go_num, hnext, below_drewN hB.out nq⟩
        case measure => simp [intOf]; omega
    · have hlt3 : ¬ ((i : Int) < (n0 : Int)) := by omega
      have hno : Hid (¬ Twice l) := fun ⟨j, s, h1, h2⟩ => by
        have := (List.getElem?_eq_some_iff.1 h2).1
        have h3 := hn0.out
        exact hall.out j s (by omega) h1 h2
      go_wp2
      all_goals first | omega | skip
      go_ret
      exact ⟨.inl ⟨rfl, hno.out⟩, hB.out⟩
def GlobOk (gs ns : List (List UInt8)) : Prop := (∀ i p g, gs[i]? = some p → gs[i + 1]? = some g → nlt p g = true) ∧ ∀ g ∈ gs, g ∈ ns
def BOut (e : Ending) (P : Prop) : Prop := ∃ bv, e = .returned (.bool bv) ∧ (bv = true ↔ P)
set_option maxHeartbeats 4000000 in
theorem rightGlobals_any (a : Option Addr) (c : Nat) (gs : List (List UInt8)) (b : Option Addr) (d : Nat) (ns : List (List UInt8)) (hl : gs.length ≤ 9000000) (hn : ns.length ≤ 9000000) (hR : Rise ns) (w : World) (hS : StIn w a gs) (hN : StIn w b ns) :
    Calls Tryz.prog 63 #[.slice a gs.length c, .slice b ns.length d] w fun e w' => BOut e (GlobOk gs ns) ∧ Below w.heap.size w w' := by
  obtain ⟨n0, hn0⟩ : ∃ n0, n0 = gs.length := ⟨_, rfl⟩
  obtain ⟨m0, hm0⟩ : ∃ m0, m0 = ns.length := ⟨_, rfl⟩
  have hsr := Hid.intro (fun g w1 (hb : Below w.heap.size w w1) => search_any b d ns g hn hR w1 (hN.below hb))
  rw [← hn0, ← hm0]
  rw [← hn0] at hl
  rw [← hm0] at hsr
  replace hn0 := Hid.intro hn0
  replace hm0 := Hid.intro hm0
  have hSH := Hid.intro hS
  clear hS hN hR hn
  go_enter Tryz.func63, Tryz.ntmps63
  go_wp2
  all_goals first | omega | skip
  go_loopw [11] (fun v11 wr => ∃ i : Nat, i ≤ n0 ∧ v11 = .int .i64 (i : Int) ∧ Hid ((∀ j p g, j + 1 < i → gs[j]? = some p → gs[j + 1]? = some g → nlt p g = true) ∧ ∀ j g, j < i → gs[j]? = some g → g ∈ ns) ∧ Hid (Below w.heap.size w wr)) (fun v11 wr => n0 - (intOf v11).toNat)
  case atStart => exact ⟨0, by omega, rfl, ⟨fun j p g hj => by omega, fun j g hj => by omega⟩, Below.refl _ _⟩
  case round =>
    obtain ⟨i, hi, rfl, hall, hB⟩ := hrel
    by_cases hlt : i < n0
    · obtain ⟨x, hx⟩ : ∃ x, gs[i]? = some x := ⟨gs[i]'(by rw [← hn0.out]; exact hlt), List.getElem?_eq_getElem _⟩
      obtain ⟨g, o, rfl, hg, hat⟩ := (hSH.out.below hB.out).at hx
      have c0 := hat i x hx
      have hlt2 : (i : Int) < (n0 : Int) := by omega
      have hxH := Hid.intro hx
      have hse := Hid.intro (hsr.out x wr hB.out)
      have hmem : Hid (decide (x ∈ ns) = false → ¬ GlobOk gs ns) := fun h h2 => by
        have := h2.2 x (List.mem_of_getElem? hxH.out)
        simp [this] at h
      have hno : Hid (∀ j p, j + 1 = i → gs[j]? = some p → nlt p x = false → ¬ GlobOk gs ns) := fun j p hj hp hf h2 => by
        have := h2.1 j p x hp (by rw [hj]; exact hxH.out)
        rw [hf] at this
        cases this
      have hnext : Hid (decide (x ∈ ns) = true → (∀ j p, j + 1 = i → gs[j]? = some p → nlt p x = true) → (∀ j p g, j + 1 < i + 1 → gs[j]? = some p → gs[j + 1]? = some g → nlt p g = true) ∧ ∀ j g, j < i + 1 → gs[j]? = some g → g ∈ ns) := fun h1 h2 => by
        refine ⟨fun j p g hj hp hg => ?_, fun j g hj hg => ?_⟩
        · rcases Nat.lt_or_ge (j + 1) i with h3 | h3
          · exact hall.out.1 j p g h3 hp hg
          · have e : j + 1 = i := by omega
            rw [e, hxH.out] at hg
            cases hg
            exact h2 j p e hp
        · rcases Nat.lt_or_ge j i with h3 | h3
          · exact hall.out.2 j g h3 hg
          · obtain rfl : j = i := by omega
            rw [hxH.out] at hg
            cases hg
            simpa using h1
      generalize decide (x ∈ ns) = fd at hse hmem hnext
      by_cases hi0 : i = 0
      · subst hi0
        rw [Nat.add_zero] at c0
        have hn2 : Hid (∀ j p, j + 1 = 0 → gs[j]? = some p → nlt p x = true) := fun j p hj => by omega
        clear hat hx
        cases fd with
        | true =>
          go_wp2_with (go_at_call 106; (with_reducible refine (hse.out).mono ?_); rintro e w1 ⟨⟨kk, rfl⟩, hb1⟩)
          all_goals first | omega | skip
          go_roundw
          case rel => exact ⟨1, by omega, by go_num, hnext.out (by simp) hn2.out, hB.out.trans (hb1.mono hB.out.size)⟩
          case measure => simp [intOf]; omega
        | false =>
          go_wp2_with (go_at_call 106; (with_reducible refine (hse.out).mono ?_); rintro e w1 ⟨⟨kk, rfl⟩, hb1⟩)
          all_goals first | omega | skip
          go_ret
          exact ⟨⟨false, rfl, by simp [hmem.out (by simp)]⟩, hB.out.trans (hb1.mono hB.out.size)⟩
      · obtain ⟨i1, hi1⟩ : ∃ i1, i1 + 1 = i := ⟨i - 1, by omega⟩
        obtain ⟨y, hy⟩ : ∃ y, gs[i1]? = some y := ⟨gs[i1]'(by rw [← hn0.out]; omega), List.getElem?_eq_getElem _⟩
        have c1 := hat i1 y hy
        have hyH := Hid.intro hy
        have hcmp := leq_nlt y x
        have z1 : ((i1 : Nat) : Int) < (n0 : Int) := by omega
        have p1 : decide ((0 : Int) < (i : Int)) = true := by simp; omega
        have q2 : (i : Int) - 1 = (i1 : Int) := by omega
        have q1 : wrap64 ((i : Int) - 1) = (i1 : Int) := by rw [q2]; unfold wrap64; omega
        have hi1H := Hid.intro hi1
        clear hat hx hy hi1 hi0
        have hn2 : Hid (nlt y x = true → ∀ j p, j + 1 = i → gs[j]? = some p → nlt p x = true) := fun h j p hj hp => by
          obtain rfl : j = i1 := by have := hi1H.out; omega
          rw [hyH.out] at hp
          cases hp
          exact h
        cases hn : nlt y x with
        | false =>
          rw [hn] at hcmp
          have e1 : (Op.bytesLess (str x).toList (str y).toList || (str x).toList == (str y).toList) = true := by rw [str_toList, str_toList]; exact hcmp
          have hbad : Hid (¬ GlobOk gs ns) := hno.out i1 y hi1H.out hyH.out hn
          clear hcmp hn
          go_wp2
          all_goals first | omega | skip
          go_ret
          exact ⟨⟨false, rfl, by simp [hbad.out]⟩, hB.out⟩
        | true =>
          rw [hn] at hcmp
          have e1 : (Op.bytesLess (str x).toList (str y).toList || (str x).toList == (str y).toList) = false := by rw [str_toList, str_toList]; exact hcmp
          replace hn2 : Hid (∀ j p, j + 1 = i → gs[j]? = some p → nlt p x = true) := hn2.out hn
          clear hcmp hn
          cases fd with
          | true =>
            go_wp2_with (go_at_call 106; (with_reducible refine (hse.out).mono ?_); rintro e w1 ⟨⟨kk, rfl⟩, hb1⟩)
            all_goals first | omega | skip
            go_roundw
            case rel => exact ⟨i + 1, by omega, by go_num, hnext.out (by simp) hn2.out, hB.out.trans (hb1.mono hB.out.size)⟩
            case measure => simp [intOf]; omega
          | false =>
            go_wp2_with (go_at_call 106; (with_reducible refine (hse.out).mono ?_); rintro e w1 ⟨⟨kk, rfl⟩, hb1⟩)
            all_goals first | omega | skip
            go_ret
            exact ⟨⟨false, rfl, by simp [hmem.out (by simp)]⟩, hB.out.trans (hb1.mono hB.out.size)⟩
    · have hlt3 : ¬ ((i : Int) < (n0 : Int)) := by omega
      have hyes : Hid (GlobOk gs ns) := by
        have h3 := hn0.out
        refine ⟨fun j p g hp hg => hall.out.1 j p g (by have := (List.getElem?_eq_some_iff.1 hg).1; omega) hp hg, fun g hg => ?_⟩
        obtain ⟨j, hj⟩ := List.mem_iff_getElem?.1 hg
        exact hall.out.2 j g (by have := (List.getElem?_eq_some_iff.1 hj).1; omega) hj
      go_wp2
      all_goals first | omega | skip
      go_ret
      exact ⟨⟨true, rfl, by simp [hyes.out]⟩, hB.out⟩
end Go.Proofs.YtmndccbeddaphaaGreatDoor
