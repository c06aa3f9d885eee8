/- object's reader: term. -/
import Derived.Test.YtmndccbeddaphaaGreatDoorWhl
import Derived.Test.YtmndccbeddaphaaGreatDoorTok
import Derived.Lib.IndexLaws
import Derived.Test.YtmndccbeddaphaaGreatDoorNames2
import Derived.Test.YtmndccbeddaphaaGreatDoorRefRd
import Derived.RangeFuncNested
import Derived.RangeFuncBound
import Derived.RangeFuncCalls
import Derived.RangeFuncLeaves
import Derived.Shelf.Abstract
import Derived.Shelf.RegionOpen
import Derived.WalkKit
import Derived.OwnWalkIn
import Derived.TacticsInMore
import Derived.LoopNIn
import Derived.LoopIn
import Derived.BigQuiet
import Derived.WalkSmall
import Derived.Deep.QuietTactic
import Derived.WalkSpells
import Derived.Handy
import Derived.Test.YtmndccbeddaphaaGreatDoorIFind
import Derived.RangeFuncFrom
import Derived.Test.YtmndccbeddaphaaGreatDoorIt9
import Derived.Test.YtmndccbeddaphaaGreatDoorLinM
import Derived.Test.YtmndccbeddaphaaGreatDoorGather
import Derived.Deep.RegionLaw
import Derived.Deep.DeepCutAuto
import Derived.Deep.DeepAppendWide
import Derived.Laws.Cover1
import Derived.Deep.RegionHeld3
import Derived.Test.YtmndccbeddaphaaGreatDoorOcMath
import Derived.Test.YtmndccbeddaphaaGreatDoorRfe
import Derived.Test.YtmndccbeddaphaaGreatDoorT1
import Derived.Test.YtmndccbeddaphaaGreatDoorSetM
namespace Go.Proofs.YtmndccbeddaphaaGreatDoor
open Go.ChangeShapes Go.WideShapes Go.ChangeAt Go.RowKit Go.Sort
set_option linter.unusedVariables false
set_option maxRecDepth 100000
theorem sameL_self (xs : List Tm) (k : Int) : sameL xs xs k k = true := by simp [sameL]
theorem itIn_at {w : World} {a : Option Addr} {l : List Itm} (h : ItIn w a l) {i : Nat} {x : Itm} (hi : l[i]? = some x) : ∃ g o, a = some ⟨g, o, none⟩ ∧ g < w.heap.size ∧ ∃ va vc, ItAt w g (o + i * 10) x va x.e.terms.length vc ∧ TmLies w va x.e.terms := by
  rcases h with h | ⟨g, o, h1, h2, h3⟩
  · subst h; cases hi
  · exact ⟨g, o, h1, h2, h3 i x hi⟩
set_option maxHeartbeats 1000000 in
theorem sameItem_any (x : Itm) (va vb : Option Addr) (vc vd : Nat) (w : World) (h1 : TmLies w va x.e.terms) (h2 : TmLies w vb x.e.terms) (hm : x.e.terms.length ≤ 9000000) :
    Calls Tryz.prog 91 #[.agg (itmCells x (.slice va x.e.terms.length vc)), .agg (itmCells x (.slice vb x.e.terms.length vd))] w fun e w' => e = .returned (.bool true) ∧ Below w.heap.size w w' := by
  have h31 : Hid (∀ w1, Below w.heap.size w w1 → Calls Tryz.prog 92 #[linV (.slice va x.e.terms.length vc) x.e.const, linV (.slice vb x.e.terms.length vd) x.e.const] w1 fun e w' => e = .returned (.bool true) ∧ Below w1.heap.size w1 w') := fun w1 hb => by
    have := refSame_any va vb vc vd x.e.terms x.e.terms x.e.const x.e.const w1 (h1.below hb (Nat.le_refl _)) (h2.below hb (Nat.le_refl _)) hm hm
    rwa [sameL_self] at this
  clear h1 h2
  generalize x.e.terms.length = n at h31 hm ⊢
  have hb2 : Hid (Below w.heap.size w ((w.alloc (.cells (itmCells x (.slice va n vc)) 86)).alloc (.cells (itmCells x (.slice vb n vd)) 86))) := (below_alloc w _).alloc (by simp) _
  have ht := Hid.intro (two_rows' w (itmCells x (.slice va n vc)) (itmCells x (.slice vb n vd)) 86 86)
  go_enter Tryz.func91, Tryz.ntmps91
  go_wp2_with (go_at_call 92; (with_reducible refine (h31.out _ hb2.out).mono ?_); rintro e w2 ⟨rfl, hb3⟩; have z9 : w2.cell? ⟨w.heap.size, 9, none⟩ = some (.int .i64 x.n) := (cell_blockT (show w2.heap[w.heap.size]? = some (.cells (itmCells x (.slice va n vc)) 86 (0, 0)) from by rw [hb3.block _ (by simp; omega)]; exact ht.out.1) 9).trans rfl; have y9 : w2.cell? ⟨w.heap.size + 1, 9, none⟩ = some (.int .i64 x.n) := (cell_blockT (show w2.heap[w.heap.size + 1]? = some (.cells (itmCells x (.slice vb n vd)) 86 (0, 0)) from by rw [hb3.block _ (by simp)]; exact ht.out.2) 9).trans rfl)
  all_goals first | omega | skip
  go_ret
  exact ⟨rfl, hb2.out.trans (hb3.mono (by simp; omega))⟩
set_option maxHeartbeats 2000000 in
theorem sameItems_any (l : List Itm) (hm : l.length ≤ 1100000) (ht : ∀ x ∈ l, x.e.terms.length ≤ 9000000) (ai bi : Option Addr) (ni ci di : Nat) (w : World) (h1 : ItIn w ai l) (h2 : ItIn w bi l) (hn : Hid (ni = l.length)) :
    Calls Tryz.prog 47 #[.slice ai ni ci, .slice bi ni di] w fun e w' => e = .returned (.bool true) ∧ Below w.heap.size w w' := by
  have hnm : ni ≤ 1100000 := by rw [hn.out]; exact hm
  clear hm
  replace h1 := Hid.intro h1
  replace h2 := Hid.intro h2
  go_enter Tryz.func47, Tryz.ntmps47
  go_wp2
  all_goals first | omega | skip
  go_loopw [5] (fun v5 wr => ∃ i : Nat, i ≤ ni ∧ v5 = .int .i64 (i : Int) ∧ Hid (Below w.heap.size w wr)) (fun v5 wr => ni - (intOf v5).toNat)
  case atStart => exact ⟨0, by omega, rfl, Hid.intro (Below.refl _ _)⟩
  case round =>
    obtain ⟨i, hi, rfl, hB⟩ := hrel
    by_cases hlt : i < ni
    · obtain ⟨x, hx⟩ : ∃ x, l[i]? = some x := ⟨l[i]'(by rw [← hn.out]; exact hlt), List.getElem?_eq_getElem _⟩
      obtain ⟨g, o, hg, hgl, xa, xc, hI, hTm⟩ := itIn_at h1.out hx
      obtain ⟨g', o', hg', hgl', ya, yc, hJ, hTn⟩ := itIn_at h2.out hx
      subst hg
      subst hg'
      have hP : Hid (∀ p : BelowOf wr, Below w.heap.size w p.wd) := fun p => hB.out.trans (p.h.mono hB.out.size)
      have h56 : Hid (∀ p : BelowOf wr, Calls Tryz.prog 91 #[.agg (itmCells x (.slice xa x.e.terms.length xc)), .agg (itmCells x (.slice ya x.e.terms.length yc))] p.wd fun e w' => e = .returned (.bool true) ∧ Below p.wd.heap.size p.wd w') := fun p => sameItem_any x xa ya xc yc p.wd (hTm.below (hP.out p) (Nat.le_refl _)) (hTn.below (hP.out p) (Nat.le_refl _)) (ht x (List.mem_of_getElem? hx))
      have cI := fun p : BelowOf wr => hI.below (hP.out p) hgl
      have cJ := fun p : BelowOf wr => hJ.below (hP.out p) hgl'
      generalize x.e.terms.length = xn at h56 cI cJ
      have c0 := fun p => (cI p).kind
      have c1 := fun p => (cI p).name
      have c2 := fun p => (cI p).op
      have c3 := fun p => (cI p).a
      have c4 := fun p => (cI p).b
      have c5 := fun p => (cI p).m
      have c6 := fun p => (cI p).form
      have c7 := fun p => (cI p).terms
      have c8 := fun p => (cI p).const
      have c9 := fun p => (cI p).n
      have d0 := fun p => (cJ p).kind
      have d1 := fun p => (cJ p).name
      have d2 := fun p => (cJ p).op
      have d3 := fun p => (cJ p).a
      have d4 := fun p => (cJ p).b
      have d5 := fun p => (cJ p).m
      have d6 := fun p => (cJ p).form
      have d7 := fun p => (cJ p).terms
      have d8 := fun p => (cJ p).const
      have d9 := fun p => (cJ p).n
      clear cI cJ hI hJ hTm hTn hx hgl hgl'
      have hlt2 : (i : Int) < (ni : Int) := by omega
      have i0 : (0 : Int) ≤ (i : Int) := by omega
      go_wp2_with fail
      all_goals first | omega | skip
      refine wp_region_quiet_below (by kernel_rfl) (by kernel_rfl) ?_
      repeat (first | (with_reducible refine wpQuiet_skip (by with_unfolding_all rfl) ?_; simp only [Act.put, List.setIfInBounds_toArray, List.set_cons_zero, List.set_cons_succ]) | (with_reducible refine wpQuiet_step (fun K hK => ?_); go_simp; first | (with_reducible refine hK _ ?_; clear hK K) | (apply Exists.intro; refine ⟨fun p => ?_, hK _ ?_⟩; (go_at_call 91; with_reducible refine below_calls (h56.out p)); clear hK K)))
      with_reducible refine wpQuiet_nil ?_
      intro _ hw'
      obtain ⟨pq, hw''⟩ := hw'
      subst hw''
      clear c0 c1 c2 c3 c4 c5 c6 c7 c8 c9 d0 d1 d2 d3 d4 d5 d6 d7 d8 d9
      have hend := Hid.intro (hP.out pq)
      go_wp2_with fail
      all_goals first | omega | skip
      go_roundw
      case rel => exact ⟨i + 1, by omega, by go_num, hend⟩
      case measure => simp [intOf]; omega
    · have hin : i = ni := by omega
      subst hin
      have hlt3 : ¬ ((i : Int) < (i : Int)) := by omega
      go_wp2
      all_goals first | omega | skip
      go_ret
      exact ⟨rfl, hB.out⟩
end Go.Proofs.YtmndccbeddaphaaGreatDoor
namespace Go.Proofs.YtmndccbeddaphaaGreatDoor
open Go.ChangeShapes Go.WideShapes Go.ChangeAt Go.RowKit Go.Sort
set_option linter.unusedVariables false
set_option maxRecDepth 100000
theorem stIn_at {w : World} {a : Option Addr} {l : List (List UInt8)} (h : StIn w a l) {i : Nat} {x : List UInt8} (hi : l[i]? = some x) : ∃ g o, a = some ⟨g, o, none⟩ ∧ g < w.heap.size ∧ w.cell? ⟨g, o + i, none⟩ = some (.string (str x)) := by
  rcases h with h | ⟨g, o, h1, h2, h3⟩
  · subst h; cases hi
  · exact ⟨g, o, h1, h2, h3 i x hi⟩
theorem eqIn_at {w : World} {a : Option Addr} {l : List (List UInt8 × Lin)} (h : EqIn w a l) {i : Nat} {q : List UInt8 × Lin} (hi : l[i]? = some q) : ∃ g o, a = some ⟨g, o, none⟩ ∧ g < w.heap.size ∧ ∃ va vc, w.cell? ⟨g, o + i * 3, none⟩ = some (.string (str q.1)) ∧ w.cell? ⟨g, o + i * 3 + 1, none⟩ = some (.slice va q.2.terms.length vc) ∧ w.cell? ⟨g, o + i * 3 + 2, none⟩ = some (.int .u32 q.2.const) ∧ TmLies w va q.2.terms := by
  rcases h with h | ⟨g, o, h1, h2, h3⟩
  · subst h; cases hi
  · exact ⟨g, o, h1, h2, h3 i q hi⟩
set_option maxHeartbeats 2000000 in
theorem sameStr_any (l : List (List UInt8)) (hm : l.length ≤ 1100000) (ai bi : Option Addr) (ni ci di : Nat) (w : World) (h1 : StIn w ai l) (h2 : StIn w bi l) (hn : Hid (ni = l.length)) :
    Calls Tryz.prog 49 #[.slice ai ni ci, .slice bi ni di] w fun e w' => e = .returned (.bool true) ∧ Below w.heap.size w w' := by
  have hnm : ni ≤ 1100000 := by rw [hn.out]; exact hm
  clear hm
  replace h1 := Hid.intro h1
  replace h2 := Hid.intro h2
  go_enter Tryz.func49, Tryz.ntmps49
  go_wp2
  all_goals first | omega | skip
  go_loopw [5] (fun v5 wr => ∃ i : Nat, i ≤ ni ∧ v5 = .int .i64 (i : Int) ∧ Hid (Below w.heap.size w wr)) (fun v5 wr => ni - (intOf v5).toNat)
  case atStart => exact ⟨0, by omega, rfl, Hid.intro (Below.refl _ _)⟩
  case round =>
    obtain ⟨i, hi, rfl, hB⟩ := hrel
    by_cases hlt : i < ni
    · obtain ⟨x, hx⟩ : ∃ x, l[i]? = some x := ⟨l[i]'(by rw [← hn.out]; exact hlt), List.getElem?_eq_getElem _⟩
      obtain ⟨g, o, hg, hgl, hI⟩ := stIn_at h1.out hx
      obtain ⟨g', o', hg', hgl', hJ⟩ := stIn_at h2.out hx
      subst hg
      subst hg'
      have hP : Hid (∀ p : BelowOf wr, Below w.heap.size w p.wd) := fun p => hB.out.trans (p.h.mono hB.out.size)
      have c0 : ∀ p : BelowOf wr, p.wd.cell? ⟨g, o + i, none⟩ = some (.string (str x)) := fun p => ((hP.out p).cell (p := ⟨g, _, none⟩) hgl).trans hI
      have d0 : ∀ p : BelowOf wr, p.wd.cell? ⟨g', o' + i, none⟩ = some (.string (str x)) := fun p => ((hP.out p).cell (p := ⟨g', _, none⟩) hgl').trans hJ
      clear hI hJ hx hgl hgl'
      have hlt2 : (i : Int) < (ni : Int) := by omega
      have i0 : (0 : Int) ≤ (i : Int) := by omega
      go_wp2_with fail
      all_goals first | omega | skip
      refine wp_region_quiet_below (by kernel_rfl) (by kernel_rfl) ?_
      repeat (first | (with_reducible refine wpQuiet_skip (by with_unfolding_all rfl) ?_; simp only [Act.put, List.setIfInBounds_toArray, List.set_cons_zero, List.set_cons_succ]) | (with_reducible refine wpQuiet_step (fun K hK => ?_); go_simp; first | (with_reducible refine hK _ ?_; clear hK K) | (apply Exists.intro; refine ⟨fun p => ?_, hK _ ?_⟩; fail; clear hK K)))
      with_reducible refine wpQuiet_nil ?_
      intro _ hw'
      obtain ⟨pq, hw''⟩ := hw'
      subst hw''
      clear c0 d0
      have hend := Hid.intro (hP.out pq)
      go_wp2_with fail
      all_goals first | omega | skip
      go_roundw
      case rel => exact ⟨i + 1, by omega, by go_num, hend⟩
      case measure => simp [intOf]; omega
    · have hin : i = ni := by omega
      subst hin
      have hlt3 : ¬ ((i : Int) < (i : Int)) := by omega
      go_wp2
      all_goals first | omega | skip
      go_ret
      exact ⟨rfl, hB.out⟩
set_option maxHeartbeats 2000000 in
theorem sameEqus_any (l : List (List UInt8 × Lin)) (hm : l.length ≤ 1100000) (ht : ∀ x ∈ l, x.2.terms.length ≤ 9000000) (ai bi : Option Addr) (ni ci di : Nat) (w : World) (h1 : EqIn w ai l) (h2 : EqIn w bi l) (hn : Hid (ni = l.length)) :
    Calls Tryz.prog 48 #[.slice ai ni ci, .slice bi ni di] w fun e w' => e = .returned (.bool true) ∧ Below w.heap.size w w' := by
  have hnm : ni ≤ 1100000 := by rw [hn.out]; exact hm
  clear hm
  replace h1 := Hid.intro h1
  replace h2 := Hid.intro h2
  go_enter Tryz.func48, Tryz.ntmps48
  go_wp2
  all_goals first | omega | skip
  go_loopw [5] (fun v5 wr => ∃ i : Nat, i ≤ ni ∧ v5 = .int .i64 (i : Int) ∧ Hid (Below w.heap.size w wr)) (fun v5 wr => ni - (intOf v5).toNat)
  case atStart => exact ⟨0, by omega, rfl, Hid.intro (Below.refl _ _)⟩
  case round =>
    obtain ⟨i, hi, rfl, hB⟩ := hrel
    by_cases hlt : i < ni
    · obtain ⟨x, hx⟩ : ∃ x, l[i]? = some x := ⟨l[i]'(by rw [← hn.out]; exact hlt), List.getElem?_eq_getElem _⟩
      obtain ⟨g, o, hg, hgl, xa, xc, i0', i1', i2', hTm⟩ := eqIn_at h1.out hx
      obtain ⟨g', o', hg', hgl', ya, yc, j0', j1', j2', hTn⟩ := eqIn_at h2.out hx
      subst hg
      subst hg'
      have hP : Hid (∀ p : BelowOf wr, Below w.heap.size w p.wd) := fun p => hB.out.trans (p.h.mono hB.out.size)
      have hfe := ht x (List.mem_of_getElem? hx)
      have h78 : Hid (∀ p : BelowOf wr, Calls Tryz.prog 92 #[linV (.slice xa x.2.terms.length xc) x.2.const, linV (.slice ya x.2.terms.length yc) x.2.const] p.wd fun e w' => e = .returned (.bool true) ∧ Below p.wd.heap.size p.wd w') := fun p => by
        have := refSame_any xa ya xc yc x.2.terms x.2.terms x.2.const x.2.const p.wd (hTm.below (hP.out p) (Nat.le_refl _)) (hTn.below (hP.out p) (Nat.le_refl _)) hfe hfe
        rwa [sameL_self] at this
      generalize x.2.terms.length = xn at h78 i1' j1'
      have c0 : ∀ p : BelowOf wr, p.wd.cell? ⟨g, o + i * 3, none⟩ = some (.string (str x.1)) := fun p => ((hP.out p).cell (p := ⟨g, _, none⟩) hgl).trans i0'
      have c1 : ∀ p : BelowOf wr, p.wd.cell? ⟨g, o + i * 3 + 1, none⟩ = some (.slice xa xn xc) := fun p => ((hP.out p).cell (p := ⟨g, _, none⟩) hgl).trans i1'
      have c2 : ∀ p : BelowOf wr, p.wd.cell? ⟨g, o + i * 3 + 2, none⟩ = some (.int .u32 x.2.const) := fun p => ((hP.out p).cell (p := ⟨g, _, none⟩) hgl).trans i2'
      have d0 : ∀ p : BelowOf wr, p.wd.cell? ⟨g', o' + i * 3, none⟩ = some (.string (str x.1)) := fun p => ((hP.out p).cell (p := ⟨g', _, none⟩) hgl').trans j0'
      have d1 : ∀ p : BelowOf wr, p.wd.cell? ⟨g', o' + i * 3 + 1, none⟩ = some (.slice ya xn yc) := fun p => ((hP.out p).cell (p := ⟨g', _, none⟩) hgl').trans j1'
      have d2 : ∀ p : BelowOf wr, p.wd.cell? ⟨g', o' + i * 3 + 2, none⟩ = some (.int .u32 x.2.const) := fun p => ((hP.out p).cell (p := ⟨g', _, none⟩) hgl').trans j2'
      clear i0' i1' i2' j0' j1' j2' hTm hTn hx hgl hgl' hfe
      have hlt2 : (i : Int) < (ni : Int) := by omega
      have i0 : (0 : Int) ≤ (i : Int) := by omega
      go_wp2_with fail
      all_goals first | omega | skip
      refine wp_region_quiet_below (by kernel_rfl) (by kernel_rfl) ?_
      repeat (first | (with_reducible refine wpQuiet_skip (by with_unfolding_all rfl) ?_; simp only [Act.put, List.setIfInBounds_toArray, List.set_cons_zero, List.set_cons_succ]) | (with_reducible refine wpQuiet_step (fun K hK => ?_); go_simp; first | (with_reducible refine hK _ ?_; clear hK K) | (apply Exists.intro; refine ⟨fun p => ?_, hK _ ?_⟩; (go_at_call 92; with_reducible refine below_calls (h78.out p)); clear hK K)))
      with_reducible refine wpQuiet_nil ?_
      intro _ hw'
      obtain ⟨pq, hw''⟩ := hw'
      subst hw''
      clear c0 c1 c2 d0 d1 d2
      have hend := Hid.intro (hP.out pq)
      go_wp2_with fail
      all_goals first | omega | skip
      go_roundw
      case rel => exact ⟨i + 1, by omega, by go_num, hend⟩
      case measure => simp [intOf]; omega
    · have hin : i = ni := by omega
      subst hin
      have hlt3 : ¬ ((i : Int) < (i : Int)) := by omega
      go_wp2
      all_goals first | omega | skip
      go_ret
      exact ⟨rfl, hB.out⟩
set_option maxHeartbeats 8000000 in
theorem sameUnit_any (ta da ea ga tb db eb gb : Option Addr) (tc dc ec gc tk dk ek gk : Nat) (u : UVal) (hu : HeldU u) (w : World) (hI : UnitIn w ta da ea ga u) (hJ : UnitIn w tb db eb gb u) :
    Calls Tryz.prog 18 #[.agg (unitV ta tc da dc ea ec ga gc u), .agg (unitV tb tk db dk eb ek gb gk u)] w fun e w' => e = .returned (.bool true) ∧ Below w.heap.size w w' := by
  have hB2 : Below w.heap.size w ((w.alloc (.cells (unitV ta tc da dc ea ec ga gc u) 30)).alloc (.cells (unitV tb tk db dk eb ek gb gk u) 30)) := (below_alloc w _).alloc (by simp) _
  have hrows := two_rows' w (unitV ta tc da dc ea ec ga gc u) (unitV tb tk db dk eb ek gb gk u) 30 30
  have hI2 := Hid.intro (hI.below hB2)
  have hJ2 := Hid.intro (hJ.below hB2)
  have b1 := Hid.intro hrows.1
  have b2 := Hid.intro hrows.2
  have hBH := Hid.intro hB2
  have q1 := Hid.intro (fun (w1 : World) (p1 : ItIn w1 ta u.text) (p2 : ItIn w1 tb u.text) => sameItems_any u.text hu.text.1 (fun x hx => (hu.text.2 x hx).few) ta tb u.text.length tc tk w1 p1 p2 (Hid.intro rfl))
  have q2 := Hid.intro (fun (w1 : World) (p1 : ItIn w1 da u.data) (p2 : ItIn w1 db u.data) => sameItems_any u.data hu.data.1 (fun x hx => (hu.data.2 x hx).few) da db u.data.length dc dk w1 p1 p2 (Hid.intro rfl))
  have q3 := Hid.intro (fun (w1 : World) (p1 : EqIn w1 ea u.equs) (p2 : EqIn w1 eb u.equs) => sameEqus_any u.equs hu.equs.1 (fun x hx => (hu.equs.2 x hx).few) ea eb u.equs.length ec ek w1 p1 p2 (Hid.intro rfl))
  have q4 := Hid.intro (fun (w1 : World) (p1 : StIn w1 ga u.globs) (p2 : StIn w1 gb u.globs) => sameStr_any u.globs hu.globs ga gb u.globs.length gc gk w1 p1 p2 (Hid.intro rfl))
  clear hrows hB2 hI hJ hu
  unfold unitV at *
  generalize u.text.length = n1 at *
  generalize u.data.length = n2 at *
  generalize u.equs.length = n3 at *
  generalize u.globs.length = n4 at *
  go_enter Tryz.func18, Tryz.ntmps18
  have hall := Hid.intro (fun (w1 : World) (hb : Below ((w.alloc (.cells (unit4 (.slice ta n1 tc) (.slice da n2 dc) (.slice ea n3 ec) (.slice ga n4 gc)) 30)).alloc (.cells (unit4 (.slice tb n1 tk) (.slice db n2 dk) (.slice eb n3 ek) (.slice gb n4 gk)) 30)).heap.size ((w.alloc (.cells (unit4 (.slice ta n1 tc) (.slice da n2 dc) (.slice ea n3 ec) (.slice ga n4 gc)) 30)).alloc (.cells (unit4 (.slice tb n1 tk) (.slice db n2 dk) (.slice eb n3 ek) (.slice gb n4 gk)) 30)) w1) => And.intro (four_read ((hb.block _ (blk_lt b1.out)).trans b1.out)) (four_read ((hb.block _ (blk_lt b2.out)).trans b2.out)))
  go_wp2_with (first
    | (go_at_call 47
       (with_reducible refine (q1.out _ hI2.out.text hJ2.out.text).mono ?_)
       rintro e w1 ⟨rfl, hb1⟩
       obtain ⟨⟨x0, x1, x2, x3⟩, y0, y1, y2, y3⟩ := hall.out w1 hb1
       have hb1H := Hid.intro hb1
       have r2 := Hid.intro (q2.out w1 (hI2.out.below hb1).data (hJ2.out.below hb1).data)
       clear hb1)
    | (go_at_call 47
       (with_reducible refine (r2.out).mono ?_)
       rintro e w2 ⟨rfl, hb2⟩
       have hb2H := Hid.intro (hb1H.out.trans (hb2.mono hb1H.out.size))
       clear x0 x1 x2 x3 y0 y1 y2 y3
       obtain ⟨⟨x0, x1, x2, x3⟩, y0, y1, y2, y3⟩ := hall.out w2 hb2H.out
       have r3 := Hid.intro (q3.out w2 (hI2.out.below hb2H.out).equs (hJ2.out.below hb2H.out).equs)
       clear hb2)
    | (go_at_call 48
       (with_reducible refine (r3.out).mono ?_)
       rintro e w3 ⟨rfl, hb3⟩
       have hb3H := Hid.intro (hb2H.out.trans (hb3.mono hb2H.out.size))
       clear x0 x1 x2 x3 y0 y1 y2 y3
       obtain ⟨⟨x0, x1, x2, x3⟩, y0, y1, y2, y3⟩ := hall.out w3 hb3H.out
       have r4 := Hid.intro (q4.out w3 (hI2.out.below hb3H.out).globs (hJ2.out.below hb3H.out).globs)
       clear hb3)
    | (go_at_call 49
       (with_reducible refine (r4.out).mono ?_)
       rintro e w4 ⟨rfl, hb4⟩
       have hb4H := Hid.intro (hb3H.out.trans (hb4.mono hb3H.out.size))
       clear hb4))
  go_ret
  exact ⟨rfl, hBH.out.trans (hb4H.out.mono hBH.out.size)⟩
end Go.Proofs.YtmndccbeddaphaaGreatDoor
namespace Go.Proofs.YtmndccbeddaphaaGreatDoor
open Go.ChangeShapes Go.WideShapes Go.ChangeAt Go.RowKit Go.Sort
set_option linter.unusedVariables false
set_option maxRecDepth 100000
theorem cell_lt {w : World} {p : Addr} {v : Value} (h : w.cell? p = some v) : p.block < w.heap.size := by
  apply Decidable.byContradiction
  intro hn
  unfold World.cell? at h
  simp [Array.getElem?_eq_none (show w.heap.size ≤ p.block by omega)] at h
theorem Src.below {w w' : World} {v : Value} {m : Nat} {xs : List Value} (h : Src w v m xs) (hb : Below w.heap.size w w') : Src w' v m xs := by
  rcases h with h | ⟨a, c, rfl, h⟩
  · exact .inl h
  · exact .inr ⟨a, c, rfl, fun j u hj => (hb.cell (cell_lt (h j u hj))).trans (h j u hj)⟩
theorem own_void (w : World) (T : TypeId) (sz : Nat) : (w.alloc (.cells #[] T)).ownsRow w.heap.size T sz (.slice (some ⟨w.heap.size, 0, none⟩) 0 0) 0 [] :=
  ⟨by simp, .inr ⟨w.heap.size, 0, #[], rfl, Nat.le_refl _, heap_alloc_new w _, Nat.le_refl _, by decide, by simp, by simp⟩⟩
theorem info123 : (Tryz.prog.info? 107).map (fun i => (i.zero, i.size, i.bytes)) = some (some (.agg #[.string ⟨#[]⟩, .int .u32 0]), 2, 24) := by kernel_rfl
theorem rowT_len (ts : List Tm) : (rowT ts).length = ts.length * 2 := by
  induction ts with
  | nil => rfl
  | cons t r ih => rw [show rowT (t :: r) = t.cells ++ rowT r from rfl, List.length_append, ih, List.length_cons]; show 2 + _ = _; omega
set_option maxHeartbeats 4000000 in
theorem copyLin_any (a : Option Addr) (n c : Nat) (x : Lin) (hn : n = x.terms.length) (hl : n ≤ 9000000) (w : World) (hS : Src w (.slice a n c) n (rowT x.terms)) :
    Calls Tryz.prog 51 #[linV (.slice a n c) x.const] w fun e w' => ∃ a' c', e = .returned (linV (.slice a' n c') x.const) ∧ w'.ownsRow w.heap.size 107 2 (.slice a' n c') n (rowT x.terms) ∧ Below w.heap.size w w' := by
  have hB0 : Below w.heap.size w ((w.alloc (.cells #[.slice a n c, .int .u32 x.const] 84)).alloc (.cells #[.slice none 0 0, .int .u32 0] 84)) := (below_alloc w _).alloc (by simp) _
  have hS0 := Hid.intro (hS.below hB0)
  have hrows := two_rows' w #[.slice a n c, .int .u32 x.const] #[.slice none 0 0, .int .u32 0] 84 84
  have hs0 : ((w.alloc (.cells #[.slice a n c, .int .u32 x.const] 84)).alloc (.cells #[.slice none 0 0, .int .u32 0] 84)).heap.size = w.heap.size + 2 := by simp
  have hrl : Hid ((rowT x.terms).length = n * 2) := by rw [hn]; exact Hid.intro (rowT_len _)
  have hone := Hid.intro (rowT_one x.terms)
  obtain ⟨i0, hi, hz0, hz1, hz2⟩ := info_parts info123
  clear hS hn
  go_enter Tryz.func51, Tryz.ntmps51
  go_wp2
  all_goals first | omega | skip
  obtain ⟨c0, c1⟩ := two_read hrows.1
  have hBH := Hid.intro hB0
  have hr1 := Hid.intro hrows.1
  have hr2 := Hid.intro hrows.2
  clear hrows hB0
  generalize ((w.alloc (.cells #[.slice a n c, .int .u32 x.const] 84)).alloc (.cells #[.slice none 0 0, .int .u32 0] 84)) = W0 at *
  have hown : Hid ((W0.alloc (.cells #[] 107)).drew.ownsRow W0.heap.size 107 2 (.slice (some ⟨w.heap.size + 2, 0, none⟩) 0 0) 0 []) := by
    have := own_void W0 107 2
    rw [hs0] at this
    rw [hs0]
    exact own_keptB this (Below.refl _ _).drew
  have hB1 : Hid (Below W0.heap.size W0 (W0.alloc (.cells #[] 107)).drew) := (below_alloc W0 _).drew
  have n1 : ¬ w.heap.size + 1 = w.heap.size := by omega
  go_region_held3 (fun W => W.cell? ⟨w.heap.size, 0, none⟩ = some (.slice a n c) ∧ W.cell? ⟨w.heap.size, 1, none⟩ = some (.int .u32 x.const)) (go_keep)
    ((first | (refine step_app _ rfl (.tmp 3) (.tmp 5) 82 rfl W0.heap.size 107 i0 _ 2 24 Tryz.underlying82 hi hz0 hz1 hz2 rfl (by decide) (.slice (some ⟨w.heap.size + 2, 0, none⟩) 0 0) 0 [] rfl hown.out (.slice a n c) n (rowT x.terms) rfl (hS0.out.below hB1.out) hrl.out hone.out (by unfold maxLen; omega) (by omega) hB1.out.size ?_; intro v' w3 ho hg hw; have hB3 : Hid (Below W0.heap.size W0 w3) := (hB1.out.grown hg hB1.out.size (fun j hj => (hown.out.lt _ hj).1)); obtain ⟨m0, m1⟩ := two_read ((hB3.out.block _ (blk_lt hr1.out)).trans hr1.out); have hr3 := Hid.intro ((hB3.out.block _ (blk_lt hr2.out)).trans hr2.out); have hf := fun j => frozen_of_row w3 (w.heap.size + 1) j _ 84 hr3.out; obtain ⟨m2, m3⟩ := two_read hr3.out; obtain ⟨a3, e3, rfl⟩ := own_slice ho; replace ho := Hid.intro ho; clear hg hw)))
  obtain ⟨r1, r2⟩ := row_set hr3.out 0 (.slice a3 n e3)
  obtain ⟨r3, r4⟩ := row_set r1 1 (.int .u32 x.const)
  have hrow : Hid (((w3.setCell ⟨w.heap.size + 1, 0, none⟩ (.slice a3 n e3)).setCell ⟨w.heap.size + 1, 1, none⟩ (.int .u32 x.const)).heap[w.heap.size + 1]? = some (.cells #[.slice a3 n e3, .int .u32 x.const] 84 (0, 0))) := r3
  have hgr := grown_trans r2 r4
  have hown4 := Hid.intro (own_low (by have := ho.out; rw [Nat.zero_add] at this; exact this) hgr (by omega : w.heap.size + 1 < W0.heap.size))
  have hB4 : Hid (Below w.heap.size w ((w3.setCell ⟨w.heap.size + 1, 0, none⟩ (.slice a3 n e3)).setCell ⟨w.heap.size + 1, 1, none⟩ (.int .u32 x.const))) := (hBH.out.trans (hB3.out.mono hBH.out.size)).grown hgr (Nat.le_trans hBH.out.size hB3.out.size) (fun j hj => by cases hj; omega)
  have hlow : Hid (w.heap.size ≤ W0.heap.size) := hBH.out.size
  clear r1 r2 r3 r4 hgr ho hB3 hr3 hf m0 m1 m2 m3 c0 c1 hown hB1 hr1 hr2 hS0
  generalize ((w3.setCell ⟨w.heap.size + 1, 0, none⟩ (.slice a3 n e3)).setCell ⟨w.heap.size + 1, 1, none⟩ (.int .u32 x.const)) = w4 at *
  obtain ⟨z0, z1⟩ := two_read hrow.out
  go_wp2
  refine bodyPost_ret (by simp [results, Tryz.results51, go_sem, z0, z1]; try rfl) rfl ?_
  exact ⟨a3, e3, rfl, own_weaken hown4.out hlow.out, hB4.out⟩
theorem own_set {w : World} {lo : Nat} {T : TypeId} {sz : Nat} {g n c : Nat} {xs : List Value} (h : w.ownsRow lo T sz (.slice (some ⟨g, 0, none⟩) n c) n xs) (k : Nat) (y : Value) : (w.setCell ⟨g, k, none⟩ y).ownsRow lo T sz (.slice (some ⟨g, 0, none⟩) n c) n (xs.set k y) ∧ w.grownBy (w.setCell ⟨g, k, none⟩ y) (some g) := by
  obtain ⟨hl, h⟩ := h
  rcases h with ⟨hv, _⟩ | ⟨g', cap, cur, hv, hlo, hg, h1, h2, h3, h4⟩
  · cases hv
  · injection hv with hv1 _ hv3
    cases hv1
    obtain ⟨r1, r2⟩ := row_set hg k y
    refine ⟨⟨by simpa using hl, .inr ⟨g, cap, _, by rw [hv3], hlo, r1, h1, h2, by simp [h3], ?_⟩⟩, r2⟩
    rw [Array.toList_setIfInBounds, List.take_set, h4]
theorem own_at {w : World} {lo : Nat} {T : TypeId} {sz : Nat} {g n c : Nat} {xs : List Value} (h : w.ownsRow lo T sz (.slice (some ⟨g, 0, none⟩) n c) n xs) : lo ≤ g ∧ g < w.heap.size ∧ (∀ k, k < xs.length → w.cell? ⟨g, k, none⟩ = xs[k]?) ∧ ∀ k, w.frozen? ⟨g, k, none⟩ = false := by
  have hh := h
  obtain ⟨hl, h⟩ := h
  rcases h with ⟨hv, _⟩ | ⟨g', cap, cur, hv, hlo, hg, h1, h2, h3, h4⟩
  · cases hv
  · injection hv with hv1 _ hv3
    cases hv1
    exact ⟨hlo, (Array.getElem?_eq_some_iff.1 hg).1, fun k hk => hh.cellAt k (by omega), fun k => by simp [World.frozen?, hg]⟩
theorem flat_set {α : Type} (f : α → List Value) (m : Nat) (hf : ∀ x, (f x).length = m) (p : List α) (i : Nat) (x : α) (hi : i < p.length) : (p.set i x).flatMap f = (p.flatMap f).take (i * m) ++ f x ++ (p.flatMap f).drop (i * m + m) := by
  induction p generalizing i with
  | nil => simp at hi
  | cons y r ih =>
    cases i with
    | zero =>
      simp only [List.set_cons_zero, List.flatMap_cons, Nat.zero_mul, List.take_zero, List.nil_append, Nat.zero_add]
      rw [List.drop_append_of_le_length (by rw [hf]; exact Nat.le_refl _), List.drop_eq_nil_of_le (by rw [hf]; exact Nat.le_refl _), List.nil_append]
    | succ i =>
      simp only [List.set_cons_succ, List.flatMap_cons]
      rw [ih i (by simpa using hi)]
      have e1 : (i + 1) * m = m + i * m := by rw [Nat.succ_mul]; omega
      have e2 : (f y ++ r.flatMap f).take (m + i * m) = f y ++ (r.flatMap f).take (i * m) := by
        rw [← hf y, List.take_length_add_append]
      have e3 : (f y ++ r.flatMap f).drop (m + i * m + m) = (r.flatMap f).drop (i * m + m) := by
        rw [Nat.add_assoc, ← hf y, List.drop_length_add_append, hf y]
      rw [e1, e2, e3]
      simp
theorem flat_set1 {α : Type} (f : α → List Value) (m : Nat) (hf : ∀ x, (f x).length = m) (p : List α) (i : Nat) (x x' : α) (j : Nat) (y : Value) (hx : p[i]? = some x) (hj : j < m) (he : f x' = (f x).set j y) : (p.flatMap f).set (i * m + j) y = (p.set i x').flatMap f := by
  induction p generalizing i with
  | nil => simp at hx
  | cons z r ih =>
    cases i with
    | zero =>
      simp at hx
      subst hx
      simp only [List.set_cons_zero, List.flatMap_cons, Nat.zero_mul, Nat.zero_add]
      rw [List.set_append_left _ _ (by rw [hf]; exact hj), he]
    | succ i =>
      simp only [List.set_cons_succ, List.flatMap_cons]
      have e1 : (i + 1) * m + j = m + (i * m + j) := by rw [Nat.succ_mul]; omega
      rw [e1, List.set_append_right _ _ (by rw [hf]; omega), hf, show m + (i * m + j) - m = i * m + j by omega, ih i (by simpa using hx)]
def setRow9 (w : World) (g k : Nat) : List Value → World
  | [] => w
  | v :: vs => setRow9 (w.setCell ⟨g, k, none⟩ v) g (k + 1) vs
theorem set_take {α : Type} (xs : List α) (k : Nat) (v : α) (vs : List α) (hk : k + (v :: vs).length ≤ xs.length) : (xs.set k v).take (k + 1) ++ vs ++ (xs.set k v).drop (k + 1 + vs.length) = xs.take k ++ (v :: vs) ++ xs.drop (k + (v :: vs).length) := by
  simp only [List.length_cons] at hk ⊢
  rw [List.take_set, List.drop_set, if_pos (by omega)]
  have e1 : (xs.take (k + 1)).set k v = xs.take k ++ [v] := by
    rw [List.take_add_one, List.set_append_right _ _ (by simp; omega)]
    have : k - (xs.take k).length = 0 := by simp; omega
    rw [this, List.getElem?_eq_getElem (by omega)]
    rfl
  rw [e1, show k + 1 + vs.length = k + (vs.length + 1) by omega]
  simp
theorem own_setRow (vs : List Value) : ∀ {w : World} {lo : Nat} {T : TypeId} {sz : Nat} {g n c : Nat} {xs : List Value} (h : w.ownsRow lo T sz (.slice (some ⟨g, 0, none⟩) n c) n xs) (k : Nat) (hk : k + vs.length ≤ xs.length), (setRow9 w g k vs).ownsRow lo T sz (.slice (some ⟨g, 0, none⟩) n c) n (xs.take k ++ vs ++ xs.drop (k + vs.length)) ∧ w.grownBy (setRow9 w g k vs) (some g) := by
  induction vs with
  | nil =>
    intro w lo T sz g n c xs h k hk
    refine ⟨?_, ⟨rfl, rfl, rfl, Nat.le_refl _, fun _ _ _ => rfl⟩⟩
    simpa [setRow9] using h
  | cons v vs ih =>
    intro w lo T sz g n c xs h k hk
    obtain ⟨h1, h2⟩ := own_set h k v
    obtain ⟨h3, h4⟩ := ih h1 (k + 1) (by simp at hk ⊢; omega)
    rw [set_take xs k v vs hk] at h3
    exact ⟨h3, grown_trans h2 h4⟩
theorem own_putI {w : World} {lo g n c : Nat} {p : List (Itm × Value)} (h : w.ownsRow lo 86 10 (.slice (some ⟨g, 0, none⟩) n c) n (rowI p)) {i : Nat} (hi : i < p.length) (x : Itm) (v : Value) : (setRow9 w g (i * 10) (itmCells x v).toList).ownsRow lo 86 10 (.slice (some ⟨g, 0, none⟩) n c) n (rowI (p.set i (x, v))) ∧ w.grownBy (setRow9 w g (i * 10) (itmCells x v).toList) (some g) := by
  obtain ⟨h1, h2⟩ := own_setRow (itmCells x v).toList h (i * 10) (by
    rw [rowI_length]
    show i * 10 + 10 ≤ _
    omega)
  refine ⟨?_, h2⟩
  have e := flat_set (fun q : Itm × Value => (itmCells q.1 q.2).toList) 10 (fun _ => rfl) p i (x, v) hi
  unfold rowI at h1 ⊢
  rw [e]
  exact h1
def ItSrc (w : World) (a : Option Addr) (l : List Itm) : Prop := l = [] ∨ ∃ g o, a = some ⟨g, o, none⟩ ∧ g < w.heap.size ∧ ∀ (i : Nat) (x : Itm), l[i]? = some x → ∃ va vc, ItAt w g (o + i * 10) x va x.e.terms.length vc ∧ Src w (.slice va x.e.terms.length vc) x.e.terms.length (rowT x.e.terms)
structure CpI (w0 : World) (g n : Nat) (l : List Itm) (i : Nat) (wr : World) : Prop where
  bel : Below w0.heap.size w0 wr
  own : ∃ p : List (Itm × Value), p.length = n ∧ wr.ownsRow w0.heap.size 86 10 (.slice (some ⟨g, 0, none⟩) n n) n (rowI p) ∧ (p.take i).map (·.1) = l.take i ∧ ∀ q ∈ p.take i, wr.ownsRow w0.heap.size 107 2 q.2 q.1.e.terms.length (rowT q.1.e.terms)
abbrev zeroI : Array Value := #[.int .i64 0, .string ⟨#[]⟩, .int .i64 0, .int .i64 0, .int .i64 0, .int .i32 0, .int .i64 0, .slice none 0 0, .int .u32 0, .int .i64 0]
theorem made_cellsI (n : Nat) : (madeCells (Value.agg zeroI).cells (n * 10)).toList = rowI (List.replicate n (itmE, .slice none 0 0)) := by
  apply List.ext_getElem?
  intro j
  by_cases hj : j < n * 10
  · obtain ⟨i, k, hk, rfl⟩ : ∃ i k, k < 10 ∧ j = i * 10 + k := ⟨j / 10, j % 10, Nat.mod_lt _ (by omega), by omega⟩
    have hi : i < n := by omega
    have hr : (rowI (List.replicate n (itmE, Value.slice none 0 0)))[i * 10 + k]? = (itmCells itmE (.slice none 0 0)).toList[k]? := flat_at (fun q : Itm × Value => (itmCells q.1 q.2).toList) 10 (fun _ => rfl) _ i k (itmE, .slice none 0 0) (by rw [List.getElem?_replicate_of_lt hi]) hk
    rw [hr]
    have hm : (i * 10 + k) % 10 = k := by omega
    have hg : ∀ (Z : Array Value) (N j : Nat), j < N → (madeCells Z N).toList[j]? = some (Z[j % Z.size]!) := fun Z N j h => by simp [madeCells, h]
    rw [hg _ _ _ hj]
    have hs : (Value.agg zeroI).cells.size = 10 := rfl
    rw [hs, hm]
    have : k = 0 ∨ k = 1 ∨ k = 2 ∨ k = 3 ∨ k = 4 ∨ k = 5 ∨ k = 6 ∨ k = 7 ∨ k = 8 ∨ k = 9 := by omega
    rcases this with rfl | rfl | rfl | rfl | rfl | rfl | rfl | rfl | rfl | rfl <;> rfl
  · rw [List.getElem?_eq_none (by simp [madeCells]; omega), List.getElem?_eq_none (by rw [rowI_length]; simp; omega)]
theorem made_items (n : Nat) (hn : n ≤ 1100000) : ∃ M : Array Value, M.size = n * 10 ∧ M.toList = rowI (List.replicate n (itmE, .slice none 0 0)) ∧ ∀ W : World, (Instr.makeSlice 26 (.int .i64 (n : Int)) (.int .i64 (n : Int))).run Tryz.prog W = .ok (.slice (some ⟨W.heap.size, 0, none⟩) n n) (W.alloc (.cells M 86)) := by
  obtain ⟨i0, hi, hz0, hz1, hz2⟩ := info_parts info91
  obtain ⟨M, hM⟩ : ∃ M, M = madeCells (Value.agg zeroI).cells (((n : Nat) : Int).toNat * i0.size) := ⟨_, rfl⟩
  have hMs : M.size = n * 10 := by rw [hM, size_madeCells, hz1]; simp
  refine ⟨M, hMs, ?_, fun W => ?_⟩
  · rw [hM, hz1]
    exact made_cellsI n
  · have h := run_make (P := Tryz.prog) W 26 86 i0 (.agg zeroI) Tryz.underlying26 hi hz0 .i64 .i64 (n : Int) (n : Int) (by omega) (by omega) (by rw [hz2]; omega) (by omega)
    rw [← hM] at h
    simpa using h
theorem own_made (w : World) (n : Nat) (hn : n ≤ 1100000) (M : Array Value) (hs : M.size = n * 10) (p : List (Itm × Value)) (hp : p.length = n) (hl : M.toList = rowI p) : (w.alloc (.cells M 86)).ownsRow w.heap.size 86 10 (.slice (some ⟨w.heap.size, 0, none⟩) n n) n (rowI p) :=
  ⟨by rw [rowI_length, hp], .inr ⟨w.heap.size, n, M, rfl, Nat.le_refl _, heap_alloc_new w _, Nat.le_refl _, by unfold maxLen; omega, hs, by rw [hl, List.take_of_length_le (by rw [rowI_length, hp]; exact Nat.le_refl _)]⟩⟩
theorem own_type9 {w w' : World} {lo : Nat} {T : TypeId} {sz : Nat} {v : Value} {n : Nat} {xs : List Value} (h : w.ownsRow lo T sz v n xs) {G : Nat} {T2 : TypeId} {sz2 n2 c2 lo2 : Nat} {ys : List Value} (hG : w.ownsRow lo2 T2 sz2 (.slice (some ⟨G, 0, none⟩) n2 c2) n2 ys) (hT : T ≠ T2) (hg : w.grownBy w' (some G)) : w'.ownsRow lo T sz v n xs := by
  refine ⟨h.1, ?_⟩
  rcases h.2 with h | ⟨g, cap, cur, hv, hlo, hb, hr⟩
  · exact .inl h
  · refine .inr ⟨g, cap, cur, hv, hlo, ?_, hr⟩
    have hne : g ≠ G := by
      rintro rfl
      rcases hG.2 with ⟨hv2, _⟩ | ⟨g2, cap2, cur2, hv2, _, hb2, _⟩
      · cases hv2
      · injection hv2 with hv3
        cases hv3
        rw [hb] at hb2
        cases hb2
        exact hT rfl
    rw [hg.block g (Array.getElem?_eq_some_iff.1 hb).1 (fun e => hne (by cases e; rfl))]
    exact hb
theorem CpI.next {w0 : World} {G n0 : Nat} {l : List Itm} {i : Nat} {wr wS w1 : World} (hB : Below w0.heap.size w0 wr) {p : List (Itm × Value)} (hpl : p.length = n0) (hi : i < n0) (hown : wr.ownsRow w0.heap.size 86 10 (.slice (some ⟨G, 0, none⟩) n0 n0) n0 (rowI p)) (hmap : (p.take i).map (·.1) = l.take i) (heach : ∀ q ∈ p.take i, wr.ownsRow w0.heap.size 107 2 q.2 q.1.e.terms.length (rowT q.1.e.terms)) {x : Itm} (hx : l[i]? = some x) {v0 v1 : Value}
    (hS : wS.ownsRow w0.heap.size 86 10 (.slice (some ⟨G, 0, none⟩) n0 n0) n0 (rowI (p.set i (x, v0)))) (hgS : wr.grownBy wS (some G)) (hb1 : Below wS.heap.size wS w1) (ho1 : w1.ownsRow wS.heap.size 107 2 v1 x.e.terms.length (rowT x.e.terms)) :
    CpI w0 G n0 l (i + 1) ((w1.setCell ⟨G, i * 10 + 7, none⟩ v1).setCell ⟨G, i * 10 + 8, none⟩ (.int .u32 x.e.const)) := by
  have hS1 := own_keptB hS hb1
  obtain ⟨s1, s2⟩ := own_set hS1 (i * 10 + 7) v1
  obtain ⟨s3, s4⟩ := own_set s1 (i * 10 + 8) (.int .u32 x.e.const)
  have hgr := grown_trans s2 s4
  obtain ⟨hGlo, hGlt, _, _⟩ := own_at hS
  have hBS : Below w0.heap.size w0 wS := hB.grown hgS hB.size (fun j hj => by cases hj; exact hGlo)
  have hB1 : Below w0.heap.size w0 w1 := hBS.trans (hb1.mono hBS.size)
  have e1 : (rowI (p.set i (x, v0))).set (i * 10 + 7) v1 = rowI ((p.set i (x, v0)).set i (x, v1)) := flat_set1 (fun q : Itm × Value => (itmCells q.1 q.2).toList) 10 (fun _ => rfl) _ i (x, v0) (x, v1) 7 v1 (by rw [List.getElem?_set_self (by omega)]) (by omega) rfl
  have e2 : (rowI (p.set i (x, v1))).set (i * 10 + 8) (.int .u32 x.e.const) = rowI ((p.set i (x, v1)).set i (x, v1)) := flat_set1 (fun q : Itm × Value => (itmCells q.1 q.2).toList) 10 (fun _ => rfl) _ i (x, v1) (x, v1) 8 _ (by rw [List.getElem?_set_self (by omega)]) (by omega) rfl
  rw [e1, List.set_set, e2, List.set_set] at s3
  have htk : (p.set i (x, v1)).take (i + 1) = p.take i ++ [(x, v1)] := by
    rw [List.take_add_one, List.getElem?_set_self (by omega), List.take_set_of_le (Nat.le_refl _)]
    rfl
  refine ⟨hB1.grown hgr hB1.size (fun j hj => by cases hj; exact hGlo), p.set i (x, v1), by simpa using hpl, s3, ?_, fun q hq => ?_⟩
  · rw [htk, List.map_append, hmap, List.take_add_one, hx]
    rfl
  · rw [htk] at hq
    rcases List.mem_append.1 hq with hq | hq
    · exact own_type9 (own_keptB (own_type9 (heach q hq) hown (by decide) hgS) hb1) hS1 (by decide) hgr
    · rw [List.mem_singleton] at hq
      subst hq
      exact own_weaken (own_low ho1 hgr hGlt) hBS.size
set_option maxHeartbeats 8000000 in
theorem copyItems_any (a : Option Addr) (c : Nat) (l : List Itm) (hl : l.length ≤ 1100000) (hf : ∀ x ∈ l, x.e.terms.length ≤ 9000000) (w : World) (hS : ItSrc w a l) :
    Calls Tryz.prog 50 #[.slice a l.length c] w fun e w' => Below w.heap.size w w' ∧ ∃ g p, e = .returned (.slice (some ⟨g, 0, none⟩) l.length l.length) ∧ ItOwn w.heap.size w' (.slice (some ⟨g, 0, none⟩) l.length l.length) p ∧ p.map (·.1) = l := by
  obtain ⟨n0, hn0⟩ : ∃ n0, n0 = l.length := ⟨_, rfl⟩
  rw [← hn0]
  rw [← hn0] at hl
  obtain ⟨M, hMs, hMl, hmk⟩ := made_items n0 hl
  have hst : Hid (CpI w w.heap.size n0 l 0 (w.alloc (.cells M 86))) := ⟨below_alloc w _, List.replicate n0 (itmE, .slice none 0 0), by simp, own_made w n0 hl M hMs _ (by simp) hMl, by simp, fun q hq => by simp at hq⟩
  replace hn0 := Hid.intro hn0
  have hSH := Hid.intro hS
  have hfH := Hid.intro hf
  clear hS hf hMl hMs
  go_enter Tryz.func50, Tryz.ntmps50
  go_wp2
  all_goals first | omega | skip
  generalize w.alloc (.cells M 86) = W1 at *
  clear hmk
  obtain ⟨G, hG⟩ : ∃ G, G = w.heap.size := ⟨_, rfl⟩
  rw [← hG] at hst ⊢
  replace hG := Hid.intro hG
  go_loopw [4] (fun v4 wr => ∃ i : Nat, i ≤ n0 ∧ v4 = .int .i64 (i : Int) ∧ Hid (CpI w G n0 l i wr)) (fun v4 wr => n0 - (intOf v4).toNat)
  case atStart => exact ⟨0, by omega, rfl, hst⟩
  case round =>
    clear hst
    obtain ⟨i, hi, rfl, hC⟩ := hrel
    by_cases hlt : i < n0
    · obtain ⟨x, hx⟩ : ∃ x, l[i]? = some x := ⟨l[i]'(by rw [← hn0.out]; exact hlt), List.getElem?_eq_getElem _⟩
      rcases hSH.out with h0 | ⟨gl, ol, rfl, hgl, hat⟩
      · rw [h0] at hx; simp at hx
      obtain ⟨va, vc, hI, hTm⟩ := hat i x hx
      obtain ⟨p, hpl, hown, hmap, heach⟩ := hC.out.own
      have hIr := hI.below hC.out.bel hgl
      obtain ⟨d0, d1, d2, d3, d4, d5, d6, d7, d8, d9⟩ := hIr
      have hgG : gl ≠ G := by have := hG.out; omega
      obtain ⟨hGlo, hGlt, hGc, hGf⟩ := own_at hown
      have hk : ∀ j, j < 10 → ∃ v, wr.cell? ⟨G, i * 10 + j, none⟩ = some v := fun j hj => by
        rw [hGc _ (by rw [rowI_length]; omega), List.getElem?_eq_getElem (by rw [rowI_length]; omega)]
        exact ⟨_, rfl⟩
      obtain ⟨k0, e0⟩ := hk 0 (by omega)
      obtain ⟨k1, e1⟩ := hk 1 (by omega)
      obtain ⟨k2, e2⟩ := hk 2 (by omega)
      obtain ⟨k3, e3⟩ := hk 3 (by omega)
      obtain ⟨k4, e4⟩ := hk 4 (by omega)
      obtain ⟨k5, e5⟩ := hk 5 (by omega)
      obtain ⟨k6, e6⟩ := hk 6 (by omega)
      obtain ⟨k7, e7⟩ := hk 7 (by omega)
      obtain ⟨k8, e8⟩ := hk 8 (by omega)
      obtain ⟨k9, e9⟩ := hk 9 (by omega)
      rw [Nat.add_zero] at e0
      have hlt2 : (i : Int) < (n0 : Int) := by omega
      have z0 : (0 : Int) ≤ (i : Int) := by omega
      have hput := Hid.intro (own_putI hown (i := i) (by omega) x (.slice va x.e.terms.length vc))
      clear hk hGc hat
      replace hI := Hid.intro hI
      replace hTm := Hid.intro hTm
      replace hown := Hid.intro hown
      replace hmap := Hid.intro hmap
      replace heach := Hid.intro heach
      replace hx := Hid.intro hx
      generalize hln : x.e.terms.length = ln at *
      go_upto_region 6 with fail
      all_goals first | omega | skip
      show Code.wp _ _ _ _ (setRow9 wr G (i * 10) (itmCells x (.slice va ln vc)).toList)
      generalize setRow9 wr G (i * 10) (itmCells x (.slice va ln vc)).toList = wS at *
      clear d0 d1 d2 d3 d4 d5 d6 d7 d8 d9 e0 e1 e2 e3 e4 e5 e6 e7 e8 e9
      have hBS : Hid (Below w.heap.size w wS) := hC.out.bel.grown hput.out.2 hC.out.bel.size (fun j hj => by cases hj; exact hGlo)
      obtain ⟨d0, d1, d2, d3, d4, d5, d6, d7, d8, d9⟩ := hI.out.below hBS.out hgl
      clear d0 d1 d2 d3 d4 d5 d6 d9
      have h63 := Hid.intro (copyLin_any va ln vc x.e hln.symm (by rw [← hln]; exact hfH.out x (List.mem_of_getElem? hx.out)) wS (by have := hTm.out.below hBS.out; exact this))
      obtain ⟨_, hGlt2, hGc2, hGf2⟩ := own_at hput.out.1
      have hcel : Hid (∀ W, Below wS.heap.size wS W → (∃ v, W.cell? ⟨G, i * 10 + 7, none⟩ = some v) ∧ (∃ v, W.cell? ⟨G, i * 10 + 8, none⟩ = some v) ∧ W.frozen? ⟨G, i * 10 + 7, none⟩ = false ∧ W.frozen? ⟨G, i * 10 + 8, none⟩ = false) := fun W hb => by
        obtain ⟨_, _, hc, hf⟩ := own_at (own_keptB hput.out.1 hb)
        have hlen : (rowI (p.set i (x, .slice va ln vc))).length = n0 * 10 := by rw [rowI_length]; simp [hpl]
        exact ⟨⟨_, (hc _ (by omega)).trans (List.getElem?_eq_getElem (by omega))⟩, ⟨_, (hc _ (by omega)).trans (List.getElem?_eq_getElem (by omega))⟩, hf _, hf _⟩
      have hnext : Hid (∀ w1 a' c', Below wS.heap.size wS w1 → w1.ownsRow wS.heap.size 107 2 (.slice a' ln c') ln (rowT x.e.terms) → CpI w G n0 l (i + 1) ((w1.setCell ⟨G, i * 10 + 7, none⟩ (.slice a' ln c')).setCell ⟨G, i * 10 + 8, none⟩ (.int .u32 x.e.const))) := fun w1 a' c' hb ho => CpI.next hC.out.bel hpl hlt hown.out hmap.out heach.out hx.out hput.out.1 hput.out.2 hb (by rw [hln]; exact ho)
      clear hGc2 hGf2 hGf hln hput
      go_wp2_with (go_at_call 51; (with_reducible refine (h63.out).mono ?_); rintro e w1 ⟨a', c', rfl, ho1, hb1⟩; obtain ⟨⟨y7, k7⟩, ⟨y8, k8⟩, f7, f8⟩ := hcel.out w1 hb1; have hfin := Hid.intro (hnext.out w1 a' c' hb1 ho1); clear ho1 hb1)
      all_goals first | omega | skip
      go_roundw
      case rel => exact ⟨i + 1, by omega, by go_num, hfin⟩
      case measure => simp [intOf]; omega
    · have hin : n0 = i := by omega
      have hCe := hC.out
      rw [← hin] at hCe
      subst hin
      have hlt3 : ¬ ((n0 : Int) < (n0 : Int)) := by omega
      clear hC
      replace hCe := Hid.intro hCe
      go_wp2
      all_goals first | omega | skip
      go_ret
      obtain ⟨p, hpl, hown, hmap, heach⟩ := hCe.out.own
      rw [List.take_of_length_le (by omega)] at hmap heach
      rw [hn0.out, List.take_length] at hmap
      refine ⟨hCe.out.bel, G, rfl, p, ⟨?_, heach⟩, hmap⟩
      rw [hpl]
      exact hown
end Go.Proofs.YtmndccbeddaphaaGreatDoor
namespace Go.Proofs.YtmndccbeddaphaaGreatDoor
open Go.ChangeShapes Go.WideShapes Go.ChangeAt Go.RowKit Go.Sort
set_option linter.unusedVariables false
set_option linter.unusedSimpArgs false
set_option maxRecDepth 100000
def tmP (zs : List Int) (p : Nat) : Nat := rdP zs (txP zs p) 4
def tmB (zs : List Int) (p : Nat) (bad : Option (Int × Int)) : Option (Int × Int) := rdB zs (txP zs p) 4 (txB zs p bad)
def tmN (zs : List Int) (p : Nat) : Int := rdV zs (txP zs p) 4
theorem two_readR {T : TypeId} {w : World} {g : Nat} {v0 v1 : Value} (h : w.heap[g]? = some (.cells #[v0, v1] T (0, 0))) : w.cell? ⟨g, 0, none⟩ = some v0 ∧ w.cell? ⟨g, 1, none⟩ = some v1 := ⟨(cell_blockT h 0).trans rfl, (cell_blockT h 1).trans rfl⟩
section
variable {w w' : World} {r : Nat} {a : Option Addr} {c : Nat} {zs : List Int} {p : Nat} {bad : Option (Int × Int)} {rp : Option Nat} {mv : Value} {last : List UInt8}
set_option maxHeartbeats 4000000 in
theorem term_is (h : RS w r a c zs p bad rp mv last) : Calls Tryz.prog 142 #[.pointer (some ⟨r, 0, none⟩)] w fun e w' => e = .returned (.agg #[.string (txS zs p), .int .u32 (tmN zs p)]) ∧ w.grownBy w' (some r) ∧ ∃ rp', RS w' r a c zs (tmP zs p) (tmB zs p bad) rp' mv last := by
  have hlt := blk_lt h.blk
  have hA := Hid.intro (h.below (below_alloc w (.cells #[.string ⟨#[]⟩, .int .u32 0] 107)))
  have h115 := Hid.intro (text_is hA.out)
  have h113 : Hid (∀ (w2 : World) rp2, RS w2 r a c zs (txP zs p) (txB zs p bad) rp2 mv last → Calls Tryz.prog 113 #[.pointer (some ⟨r, 0, none⟩), .int .i64 4] w2 fun e w' => e = .returned (.int .u32 (tmN zs p)) ∧ w2.grownBy w' (some r) ∧ ∃ rp', RS w' r a c zs (tmP zs p) (tmB zs p bad) rp' mv last) := fun w2 rp2 hR => number_is hR 4 (.inr (.inr rfl))
  have hfin : Hid (∀ w2 w3 x y, (w.alloc (.cells #[.string ⟨#[]⟩, .int .u32 0] 107)).grownBy w2 (some r) → w2.grownBy w3 (some r) → (∃ rp', RS w3 r a c zs (tmP zs p) (tmB zs p bad) rp' mv last) → w3.heap[w.heap.size]? = some (.cells #[.string ⟨#[]⟩, .int .u32 0] 107 (0, 0)) ∧ ((w3.setCell ⟨w.heap.size, 0, none⟩ x).setCell ⟨w.heap.size, 1, none⟩ y).heap[w.heap.size]? = some (.cells #[x, y] 107 (0, 0)) ∧ w.grownBy ((w3.setCell ⟨w.heap.size, 0, none⟩ x).setCell ⟨w.heap.size, 1, none⟩ y) (some r) ∧ ∃ rp', RS ((w3.setCell ⟨w.heap.size, 0, none⟩ x).setCell ⟨w.heap.size, 1, none⟩ y) r a c zs (tmP zs p) (tmB zs p bad) rp' mv last) := fun w2 w3 x y g1 g2 hR => by
    have hne : (w.heap.size : Nat) ≠ r := Nat.ne_of_gt hlt
    have g12 := grown_trans g1 g2
    have h0 := heap_alloc_new w (.cells #[.string ⟨#[]⟩, .int .u32 0] 107)
    have h3 := (g12.block _ (blk_lt h0) (fun e => hne (Option.some.inj e))).trans h0
    obtain ⟨s1, k1⟩ := row_set h3 0 x
    obtain ⟨s2, k2⟩ := row_set s1 1 y
    have k := grown_trans k1 k2
    refine ⟨h3, s2, ?_, ?_⟩
    · have hg := grown_trans (World.grownBy_alloc w (.cells #[.string ⟨#[]⟩, .int .u32 0] 107) (some r)) g12
      exact ⟨by rw [k.os, hg.os], by rw [k.tape, hg.tape], by rw [k.output, hg.output], Nat.le_trans hg.size k.size, fun j hj hjr => by rw [k.block j (Nat.lt_of_lt_of_le hj hg.size) (fun e => by cases e; exact absurd hj (Nat.lt_irrefl _)), hg.block j hj hjr]⟩
    · obtain ⟨rp', hR⟩ := hR
      refine ⟨rp', ⟨(k.block r (blk_lt hR.blk) (fun e => hne (Option.some.inj e).symm)).trans hR.blk, lies_grown hR.lies (fun z hz => ⟨Nat.lt_trans (hR.old z hz) (blk_lt hR.blk), fun e => ?_⟩) k, hR.old, hR.cap, hR.few, hR.at_, hR.rf.grown (fun q hq e => ?_) k⟩⟩
      · have := hR.old z hz; have e' := Option.some.inj e; omega
      · have e' := Option.some.inj e
        subst e'
        have h5 := hR.rf
        cases hb : tmB zs p bad with
        | none => rw [hb] at h5; rw [hq] at h5; cases h5
        | some f =>
          rw [hb] at h5
          obtain ⟨q', h6, h7⟩ := h5
          rw [hq] at h6
          cases h6
          rw [h3] at h7
          cases h7
  obtain ⟨n0, hn0⟩ : ∃ n0, n0 = tmN zs p := ⟨_, rfl⟩
  rw [← hn0] at h113 ⊢
  generalize txS zs p = S at *
  clear h hA hn0
  go_enter Tryz.func142, Tryz.ntmps142
  go_wp2_with (first
    | (go_at_call 115; (with_reducible refine (h115.out).mono ?_); rintro e w2 ⟨rfl, g1, rp2, hR2⟩; replace g1 := Hid.intro g1; replace hR2 := Hid.intro hR2)
    | (go_at_call 113; (with_reducible refine (h113.out _ rp2 hR2.out).mono ?_); rintro e w3 ⟨rfl, g2, hR3⟩; obtain ⟨k1, k2, k3, k4⟩ := hfin.out w2 w3 (.string S) (.int .u32 n0) g1.out g2 hR3; obtain ⟨d0, d1⟩ := two_readR k1; have df := fun j => frozen_of_row w3 w.heap.size j _ 107 k1; replace k3 := Hid.intro k3; replace k4 := Hid.intro k4; replace k2 := Hid.intro k2; clear k1 g2 hR3))
  all_goals first | omega | skip
  obtain ⟨z0, z1⟩ := two_readR k2.out
  refine bodyPost_ret (by simp [results, Tryz.results142, go_sem, z0, z1]; try rfl) rfl ?_
  exact ⟨rfl, k3.out, k4.out⟩
end
end Go.Proofs.YtmndccbeddaphaaGreatDoor
