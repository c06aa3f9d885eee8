/- spandrelkeep's CopyLin, CopyItems, CopyUnit. -/
import Derived.Test.YtmndccbeddaphaaGreatDoorShx
import Derived.Test.YtmndccbeddaphaaGreatDoorNames
import Derived.Lib.IndexLaws
import Derived.Test.YtmndccbeddaphaaGreatDoorNum2
import Derived.Test.YtmndccbeddaphaaGreatDoorQuietB
import Derived.RangeFuncNested
import Derived.RangeFuncBound
import Derived.RangeFuncCalls
import Derived.RangeFuncLeaves
import Derived.Shelf.Abstract
import Derived.Shelf.RegionOpen
import Derived.WalkKit
import Derived.OwnWalkIn
import Derived.TacticsInMore
import Derived.LoopNIn
import Derived.LoopIn
import Derived.BigQuiet
import Derived.WalkSmall
import Derived.Deep.QuietTactic
import Derived.WalkSpells
import Derived.Handy
import Derived.Test.YtmndccbeddaphaaGreatDoorEr1
import Derived.RangeFuncFrom
import Derived.Test.YtmndccbeddaphaaGreatDoorOwn
import Derived.Deep.RegionLaw
import Derived.Deep.DeepCutAuto
import Derived.Deep.DeepAppendWide
import Derived.Laws.Cover1
import Derived.Test.YtmndccbeddaphaaGreatDoorEr5
import Derived.Deep.RegionHeld3
import Derived.Test.YtmndccbeddaphaaGreatDoorOcGets0
import Derived.Test.YtmndccbeddaphaaGreatDoorRfe
import Derived.Test.YtmndccbeddaphaaGreatDoorT1
/- The law's few; spandrelkeep's SameItem, SameItems. -/
namespace Go.Proofs.YtmndccbeddaphaaGreatDoor
open Go.ChangeShapes Go.WideShapes Go.ChangeAt Go.RowKit Go.Sort
set_option linter.unusedVariables false
set_option maxRecDepth 100000
theorem sameL_self (xs : List Tm) (k : Int) : sameL xs xs k k = true := by simp [sameL]
theorem itIn_at {w : World} {a : Option Addr} {l : List Itm} (h : ItIn w a l) {i : Nat} {x : Itm} (hi : l[i]? = some x) : ∃ g o, a = some ⟨g, o, none⟩ ∧ g < w.heap.size ∧ ∃ va vc, ItAt w g (o + i * 10) x va x.e.terms.length vc ∧ TmLies w va x.e.terms := by
  rcases h with h | ⟨g, o, h1, h2, h3⟩
  · subst h; cases hi
  · exact ⟨g, o, h1, h2, h3 i x hi⟩
set_option maxHeartbeats 1000000 in
theorem sameItem_any (x : Itm) (va vb : Option Addr) (vc vd : Nat) (w : World) (h1 : TmLies w va x.e.terms) (h2 : TmLies w vb x.e.terms) (hm : x.e.terms.length ≤ 9000000) :
    Calls Tryz.prog 91 #[.agg (itmCells x (.slice va x.e.terms.length vc)), .agg (itmCells x (.slice vb x.e.terms.length vd))] w fun e w' => e = .returned (.bool true) ∧ Below w.heap.size w w' := by
  have h31 : Hid (∀ w1, Below w.heap.size w w1 → Calls Tryz.prog 92 #[linV (.slice va x.e.terms.length vc) x.e.const, linV (.slice vb x.e.terms.length vd) x.e.const] w1 fun e w' => e = .returned (.bool true) ∧ Below w1.heap.size w1 w') := fun w1 hb => by
    have := refSame_any va vb vc vd x.e.terms x.e.terms x.e.const x.e.const w1 (h1.below hb (Nat.le_refl _)) (h2.below hb (Nat.le_refl _)) hm hm
    rwa [sameL_self] at this
  clear h1 h2
  generalize x.e.terms.length = n at h31 hm ⊢
  have hb2 : Hid (Below w.heap.size w ((w.alloc (.cells (itmCells x (.slice va n vc)) 86)).alloc (.cells (itmCells x (.slice vb n vd)) 86))) := (below_alloc w _).alloc (by simp) _
  have ht := Hid.intro (two_rows' w (itmCells x (.slice va n vc)) (itmCells x (.slice vb n vd)) 86 86)
  go_enter Tryz.func91, Tryz.ntmps91
  go_wp2_with (go_at_call 92; (with_reducible refine (h31.out _ hb2.out).mono ?_); rintro e w2 ⟨rfl, hb3⟩; have z9 : w2.cell? ⟨w.heap.size, 9, none⟩ = some (.int .i64 x.n) := (cell_blockT (show w2.heap[w.heap.size]? = some (.cells (itmCells x (.slice va n vc)) 86 (0, 0)) from by rw [hb3.block _ (by simp; omega)]; exact ht.out.1) 9).trans rfl; have y9 : w2.cell? ⟨w.heap.size + 1, 9, none⟩ = some (.int .i64 x.n) := (cell_blockT (show w2.heap[w.heap.size + 1]? = some (.cells (itmCells x (.slice vb n vd)) 86 (0, 0)) from by rw [hb3.block _ (by simp)]; exact ht.out.2) 9).trans rfl)
  all_goals first | omega | skip
  go_ret
  exact ⟨rfl, hb2.out.trans (hb3.mono (by simp; omega))⟩
set_option maxHeartbeats 2000000 in
theorem sameItems_any (l : List Itm) (hm : l.length ≤ 1100000) (ht : ∀ x ∈ l, x.e.terms.length ≤ 9000000) (ai bi : Option Addr) (ni ci di : Nat) (w : World) (h1 : ItIn w ai l) (h2 : ItIn w bi l) (hn : Hid (ni = l.length)) :
    Calls Tryz.prog 47 #[.slice ai ni ci, .slice bi ni di] w fun e w' => e = .returned (.bool true) ∧ Below w.heap.size w w' := by
  have hnm : ni ≤ 1100000 := by rw [hn.out]; exact hm
  clear hm
  replace h1 := Hid.intro h1
  replace h2 := Hid.intro h2
  go_enter Tryz.func47, Tryz.ntmps47
  go_wp2
  all_goals first | omega | skip
  go_loopw [5] (fun v5 wr => ∃ i : Nat, i ≤ ni ∧ v5 = .int .i64 (i : Int) ∧ Hid (Below w.heap.size w wr)) (fun v5 wr => ni - (intOf v5).toNat)
  case atStart => exact ⟨0, by omega, rfl, Hid.intro (Below.refl _ _)⟩
  case round =>
    obtain ⟨i, hi, rfl, hB⟩ := hrel
    by_cases hlt : i < ni
    · obtain ⟨x, hx⟩ : ∃ x, l[i]? = some x := ⟨l[i]'(by rw [← hn.out]; exact hlt), List.getElem?_eq_getElem _⟩
      obtain ⟨g, o, hg, hgl, xa, xc, hI, hTm⟩ := itIn_at h1.out hx
      obtain ⟨g', o', hg', hgl', ya, yc, hJ, hTn⟩ := itIn_at h2.out hx
      subst hg
      subst hg'
      have hP : Hid (∀ p : BelowOf wr, Below w.heap.size w p.wd) := fun p => hB.out.trans (p.h.mono hB.out.size)
      have h56 : Hid (∀ p : BelowOf wr, Calls Tryz.prog 91 #[.agg (itmCells x (.slice xa x.e.terms.length xc)), .agg (itmCells x (.slice ya x.e.terms.length yc))] p.wd fun e w' => e = .returned (.bool true) ∧ Below p.wd.heap.size p.wd w') := fun p => sameItem_any x xa ya xc yc p.wd (hTm.below (hP.out p) (Nat.le_refl _)) (hTn.below (hP.out p) (Nat.le_refl _)) (ht x (List.mem_of_getElem? hx))
      have cI := fun p : BelowOf wr => hI.below (hP.out p) hgl
      have cJ := fun p : BelowOf wr => hJ.below (hP.out p) hgl'
      generalize x.e.terms.length = xn at h56 cI cJ
      have c0 := fun p => (cI p).kind
      have c1 := fun p => (cI p).name
      have c2 := fun p => (cI p).op
      have c3 := fun p => (cI p).a
      have c4 := fun p => (cI p).b
      have c5 := fun p => (cI p).m
      have c6 := fun p => (cI p).form
      have c7 := fun p => (cI p).terms
      have c8 := fun p => (cI p).const
      have c9 := fun p => (cI p).n
      have d0 := fun p => (cJ p).kind
      have d1 := fun p => (cJ p).name
      have d2 := fun p => (cJ p).op
      have d3 := fun p => (cJ p).a
      have d4 := fun p => (cJ p).b
      have d5 := fun p => (cJ p).m
      have d6 := fun p => (cJ p).form
      have d7 := fun p => (cJ p).terms
      have d8 := fun p => (cJ p).const
      have d9 := fun p => (cJ p).n
      clear cI cJ hI hJ hTm hTn hx hgl hgl'
      have hlt2 : (i : Int) < (ni : Int) := by omega
      have i0 : (0 : Int) ≤ (i : Int) := by omega
      go_wp2_with fail
      all_goals first | omega | skip
      refine wp_region_quiet_below (by kernel_rfl) (by kernel_rfl) ?_
      repeat (first | (with_reducible refine wpQuiet_skip (by with_unfolding_all rfl) ?_; simp only [Act.put, List.setIfInBounds_toArray, List.set_cons_zero, List.set_cons_succ]) | (with_reducible refine wpQuiet_step (fun K hK => ?_); go_simp; first | (with_reducible refine hK _ ?_; clear hK K) | (apply Exists.intro; refine ⟨fun p => ?_, hK _ ?_⟩; (go_at_call 91; with_reducible refine below_calls (h56.out p)); clear hK K)))
      with_reducible refine wpQuiet_nil ?_
      intro _ hw'
      obtain ⟨pq, hw''⟩ := hw'
      subst hw''
      clear c0 c1 c2 c3 c4 c5 c6 c7 c8 c9 d0 d1 d2 d3 d4 d5 d6 d7 d8 d9
      have hend := Hid.intro (hP.out pq)
      go_wp2_with fail
      all_goals first | omega | skip
      go_roundw
      case rel => exact ⟨i + 1, by omega, by go_num, hend⟩
      case measure => simp [intOf]; omega
    · have hin : i = ni := by omega
      subst hin
      have hlt3 : ¬ ((i : Int) < (i : Int)) := by omega
      go_wp2
      all_goals first | omega | skip
      go_ret
      exact ⟨rfl, hB.out⟩
end Go.Proofs.YtmndccbeddaphaaGreatDoor
/- spandrelbook's Same over texts; spandrelkeep's SameEqus, SameUnit. -/
namespace Go.Proofs.YtmndccbeddaphaaGreatDoor
open Go.ChangeShapes Go.WideShapes Go.ChangeAt Go.RowKit Go.Sort
set_option linter.unusedVariables false
set_option maxRecDepth 100000
theorem stIn_at {w : World} {a : Option Addr} {l : List (List UInt8)} (h : StIn w a l) {i : Nat} {x : List UInt8} (hi : l[i]? = some x) : ∃ g o, a = some ⟨g, o, none⟩ ∧ g < w.heap.size ∧ w.cell? ⟨g, o + i, none⟩ = some (.string (str x)) := by
  rcases h with h | ⟨g, o, h1, h2, h3⟩
  · subst h; cases hi
  · exact ⟨g, o, h1, h2, h3 i x hi⟩
theorem eqIn_at {w : World} {a : Option Addr} {l : List (List UInt8 × Lin)} (h : EqIn w a l) {i : Nat} {q : List UInt8 × Lin} (hi : l[i]? = some q) : ∃ g o, a = some ⟨g, o, none⟩ ∧ g < w.heap.size ∧ ∃ va vc, w.cell? ⟨g, o + i * 3, none⟩ = some (.string (str q.1)) ∧ w.cell? ⟨g, o + i * 3 + 1, none⟩ = some (.slice va q.2.terms.length vc) ∧ w.cell? ⟨g, o + i * 3 + 2, none⟩ = some (.int .u32 q.2.const) ∧ TmLies w va q.2.terms := by
  rcases h with h | ⟨g, o, h1, h2, h3⟩
  · subst h; cases hi
  · exact ⟨g, o, h1, h2, h3 i q hi⟩
set_option maxHeartbeats 2000000 in
theorem sameStr_any (l : List (List UInt8)) (hm : l.length ≤ 1100000) (ai bi : Option Addr) (ni ci di : Nat) (w : World) (h1 : StIn w ai l) (h2 : StIn w bi l) (hn : Hid (ni = l.length)) :
    Calls Tryz.prog 49 #[.slice ai ni ci, .slice bi ni di] w fun e w' => e = .returned (.bool true) ∧ Below w.heap.size w w' := by
  have hnm : ni ≤ 1100000 := by rw [hn.out]; exact hm
  clear hm
  replace h1 := Hid.intro h1
  replace h2 := Hid.intro h2
  go_enter Tryz.func49, Tryz.ntmps49
  go_wp2
  all_goals first | omega | skip
  go_loopw [5] (fun v5 wr => ∃ i : Nat, i ≤ ni ∧ v5 = .int .i64 (i : Int) ∧ Hid (Below w.heap.size w wr)) (fun v5 wr => ni - (intOf v5).toNat)
  case atStart => exact ⟨0, by omega, rfl, Hid.intro (Below.refl _ _)⟩
  case round =>
    obtain ⟨i, hi, rfl, hB⟩ := hrel
    by_cases hlt : i < ni
    · obtain ⟨x, hx⟩ : ∃ x, l[i]? = some x := ⟨l[i]'(by rw [← hn.out]; exact hlt), List.getElem?_eq_getElem _⟩
      obtain ⟨g, o, hg, hgl, hI⟩ := stIn_at h1.out hx
      obtain ⟨g', o', hg', hgl', hJ⟩ := stIn_at h2.out hx
      subst hg
      subst hg'
      have hP : Hid (∀ p : BelowOf wr, Below w.heap.size w p.wd) := fun p => hB.out.trans (p.h.mono hB.out.size)
      have c0 : ∀ p : BelowOf wr, p.wd.cell? ⟨g, o + i, none⟩ = some (.string (str x)) := fun p => ((hP.out p).cell (p := ⟨g, _, none⟩) hgl).trans hI
      have d0 : ∀ p : BelowOf wr, p.wd.cell? ⟨g', o' + i, none⟩ = some (.string (str x)) := fun p => ((hP.out p).cell (p := ⟨g', _, none⟩) hgl').trans hJ
      clear hI hJ hx hgl hgl'
      have hlt2 : (i : Int) < (ni : Int) := by omega
      have i0 : (0 : Int) ≤ (i : Int) := by omega
      go_wp2_with fail
      all_goals first | omega | skip
      refine wp_region_quiet_below (by kernel_rfl) (by kernel_rfl) ?_
      repeat (first | (with_reducible refine wpQuiet_skip (by with_unfolding_all rfl) ?_; simp only [Act.put, List.setIfInBounds_toArray, List.set_cons_zero, List.set_cons_succ]) | (with_reducible refine wpQuiet_step (fun K hK => ?_); go_simp; first | (with_reducible refine hK _ ?_; clear hK K) | (apply Exists.intro; refine ⟨fun p => ?_, hK _ ?_⟩; fail; clear hK K)))
      with_reducible refine wpQuiet_nil ?_
      intro _ hw'
      obtain ⟨pq, hw''⟩ := hw'
      subst hw''
      clear c0 d0
      have hend := Hid.intro (hP.out pq)
      go_wp2_with fail
      all_goals first | omega | skip
      go_roundw
      case rel => exact ⟨i + 1, by omega, by go_num, hend⟩
      case measure => simp [intOf]; omega
    · have hin : i = ni := by omega
      subst hin
      have hlt3 : ¬ ((i : Int) < (i : Int)) := by omega
      go_wp2
      all_goals first | omega | skip
      go_ret
      exact ⟨rfl, hB.out⟩
set_option maxHeartbeats 2000000 in
theorem sameEqus_any (l : List (List UInt8 × Lin)) (hm : l.length ≤ 1100000) (ht : ∀ x ∈ l, x.2.terms.length ≤ 9000000) (ai bi : Option Addr) (ni ci di : Nat) (w : World) (h1 : EqIn w ai l) (h2 : EqIn w bi l) (hn : Hid (ni = l.length)) :
    Calls Tryz.prog 48 #[.slice ai ni ci, .slice bi ni di] w fun e w' => e = .returned (.bool true) ∧ Below w.heap.size w w' := by
  have hnm : ni ≤ 1100000 := by rw [hn.out]; exact hm
  clear hm
  replace h1 := Hid.intro h1
  replace h2 := Hid.intro h2
  go_enter Tryz.func48, Tryz.ntmps48
  go_wp2
  all_goals first | omega | skip
  go_loopw [5] (fun v5 wr => ∃ i : Nat, i ≤ ni ∧ v5 = .int .i64 (i : Int) ∧ Hid (Below w.heap.size w wr)) (fun v5 wr => ni - (intOf v5).toNat)
  case atStart => exact ⟨0, by omega, rfl, Hid.intro (Below.refl _ _)⟩
  case round =>
    obtain ⟨i, hi, rfl, hB⟩ := hrel
    by_cases hlt : i < ni
    · obtain ⟨x, hx⟩ : ∃ x, l[i]? = some x := ⟨l[i]'(by rw [← hn.out]; exact hlt), List.getElem?_eq_getElem _⟩
      obtain ⟨g, o, hg, hgl, xa, xc, i0', i1', i2', hTm⟩ := eqIn_at h1.out hx
      obtain ⟨g', o', hg', hgl', ya, yc, j0', j1', j2', hTn⟩ := eqIn_at h2.out hx
      subst hg
      subst hg'
      have hP : Hid (∀ p : BelowOf wr, Below w.heap.size w p.wd) := fun p => hB.out.trans (p.h.mono hB.out.size)
      have hfe := ht x (List.mem_of_getElem? hx)
      have h78 : Hid (∀ p : BelowOf wr, Calls Tryz.prog 92 #[linV (.slice xa x.2.terms.length xc) x.2.const, linV (.slice ya x.2.terms.length yc) x.2.const] p.wd fun e w' => e = .returned (.bool true) ∧ Below p.wd.heap.size p.wd w') := fun p => by
        have := refSame_any xa ya xc yc x.2.terms x.2.terms x.2.const x.2.const p.wd (hTm.below (hP.out p) (Nat.le_refl _)) (hTn.below (hP.out p) (Nat.le_refl _)) hfe hfe
        rwa [sameL_self] at this
      generalize x.2.terms.length = xn at h78 i1' j1'
      have c0 : ∀ p : BelowOf wr, p.wd.cell? ⟨g, o + i * 3, none⟩ = some (.string (str x.1)) := fun p => ((hP.out p).cell (p := ⟨g, _, none⟩) hgl).trans i0'
      have c1 : ∀ p : BelowOf wr, p.wd.cell? ⟨g, o + i * 3 + 1, none⟩ = some (.slice xa xn xc) := fun p => ((hP.out p).cell (p := ⟨g, _, none⟩) hgl).trans i1'
      have c2 : ∀ p : BelowOf wr, p.wd.cell? ⟨g, o + i * 3 + 2, none⟩ = some (.int .u32 x.2.const) := fun p => ((hP.out p).cell (p := ⟨g, _, none⟩) hgl).trans i2'
      have d0 : ∀ p : BelowOf wr, p.wd.cell? ⟨g', o' + i * 3, none⟩ = some (.string (str x.1)) := fun p => ((hP.out p).cell (p := ⟨g', _, none⟩) hgl').trans j0'
      have d1 : ∀ p : BelowOf wr, p.wd.cell? ⟨g', o' + i * 3 + 1, none⟩ = some (.slice ya xn yc) := fun p => ((hP.out p).cell (p := ⟨g', _, none⟩) hgl').trans j1'
      have d2 : ∀ p : BelowOf wr, p.wd.cell? ⟨g', o' + i * 3 + 2, none⟩ = some (.int .u32 x.2.const) := fun p => ((hP.out p).cell (p := ⟨g', _, none⟩) hgl').trans j2'
      clear i0' i1' i2' j0' j1' j2' hTm hTn hx hgl hgl' hfe
      have hlt2 : (i : Int) < (ni : Int) := by omega
      have i0 : (0 : Int) ≤ (i : Int) := by omega
      go_wp2_with fail
      all_goals first | omega | skip
      refine wp_region_quiet_below (by kernel_rfl) (by kernel_rfl) ?_
      repeat (first | (with_reducible refine wpQuiet_skip (by with_unfolding_all rfl) ?_; simp only [Act.put, List.setIfInBounds_toArray, List.set_cons_zero, List.set_cons_succ]) | (with_reducible refine wpQuiet_step (fun K hK => ?_); go_simp; first | (with_reducible refine hK _ ?_; clear hK K) | (apply Exists.intro; refine ⟨fun p => ?_, hK _ ?_⟩; (go_at_call 92; with_reducible refine below_calls (h78.out p)); clear hK K)))
      with_reducible refine wpQuiet_nil ?_
      intro _ hw'
      obtain ⟨pq, hw''⟩ := hw'
      subst hw''
      clear c0 c1 c2 d0 d1 d2
      have hend := Hid.intro (hP.out pq)
      go_wp2_with fail
      all_goals first | omega | skip
      go_roundw
      case rel => exact ⟨i + 1, by omega, by go_num, hend⟩
      case measure => simp [intOf]; omega
    · have hin : i = ni := by omega
      subst hin
      have hlt3 : ¬ ((i : Int) < (i : Int)) := by omega
      go_wp2
      all_goals first | omega | skip
      go_ret
      exact ⟨rfl, hB.out⟩
set_option maxHeartbeats 8000000 in
theorem sameUnit_any (ta da ea ga tb db eb gb : Option Addr) (tc dc ec gc tk dk ek gk : Nat) (u : UVal) (hu : HeldU u) (w : World) (hI : UnitIn w ta da ea ga u) (hJ : UnitIn w tb db eb gb u) :
    Calls Tryz.prog 18 #[.agg (unitV ta tc da dc ea ec ga gc u), .agg (unitV tb tk db dk eb ek gb gk u)] w fun e w' => e = .returned (.bool true) ∧ Below w.heap.size w w' := by
  have hB2 : Below w.heap.size w ((w.alloc (.cells (unitV ta tc da dc ea ec ga gc u) 30)).alloc (.cells (unitV tb tk db dk eb ek gb gk u) 30)) := (below_alloc w _).alloc (by simp) _
  have hrows := two_rows' w (unitV ta tc da dc ea ec ga gc u) (unitV tb tk db dk eb ek gb gk u) 30 30
  have hI2 := Hid.intro (hI.below hB2)
  have hJ2 := Hid.intro (hJ.below hB2)
  have b1 := Hid.intro hrows.1
  have b2 := Hid.intro hrows.2
  have hBH := Hid.intro hB2
  have q1 := Hid.intro (fun (w1 : World) (p1 : ItIn w1 ta u.text) (p2 : ItIn w1 tb u.text) => sameItems_any u.text hu.text.1 (fun x hx => (hu.text.2 x hx).few) ta tb u.text.length tc tk w1 p1 p2 (Hid.intro rfl))
  have q2 := Hid.intro (fun (w1 : World) (p1 : ItIn w1 da u.data) (p2 : ItIn w1 db u.data) => sameItems_any u.data hu.data.1 (fun x hx => (hu.data.2 x hx).few) da db u.data.length dc dk w1 p1 p2 (Hid.intro rfl))
  have q3 := Hid.intro (fun (w1 : World) (p1 : EqIn w1 ea u.equs) (p2 : EqIn w1 eb u.equs) => sameEqus_any u.equs hu.equs.1 (fun x hx => (hu.equs.2 x hx).few) ea eb u.equs.length ec ek w1 p1 p2 (Hid.intro rfl))
  have q4 := Hid.intro (fun (w1 : World) (p1 : StIn w1 ga u.globs) (p2 : StIn w1 gb u.globs) => sameStr_any u.globs hu.globs ga gb u.globs.length gc gk w1 p1 p2 (Hid.intro rfl))
  clear hrows hB2 hI hJ hu
  unfold unitV at *
  generalize u.text.length = n1 at *
  generalize u.data.length = n2 at *
  generalize u.equs.length = n3 at *
  generalize u.globs.length = n4 at *
  go_enter Tryz.func18, Tryz.ntmps18
  have hall := Hid.intro (fun (w1 : World) (hb : Below ((w.alloc (.cells (unit4 (.slice ta n1 tc) (.slice da n2 dc) (.slice ea n3 ec) (.slice ga n4 gc)) 30)).alloc (.cells (unit4 (.slice tb n1 tk) (.slice db n2 dk) (.slice eb n3 ek) (.slice gb n4 gk)) 30)).heap.size ((w.alloc (.cells (unit4 (.slice ta n1 tc) (.slice da n2 dc) (.slice ea n3 ec) (.slice ga n4 gc)) 30)).alloc (.cells (unit4 (.slice tb n1 tk) (.slice db n2 dk) (.slice eb n3 ek) (.slice gb n4 gk)) 30)) w1) => And.intro (four_read ((hb.block _ (blk_lt b1.out)).trans b1.out)) (four_read ((hb.block _ (blk_lt b2.out)).trans b2.out)))
  go_wp2_with (first
    | (go_at_call 47
       (with_reducible refine (q1.out _ hI2.out.text hJ2.out.text).mono ?_)
       rintro e w1 ⟨rfl, hb1⟩
       obtain ⟨⟨x0, x1, x2, x3⟩, y0, y1, y2, y3⟩ := hall.out w1 hb1
       have hb1H := Hid.intro hb1
       have r2 := Hid.intro (q2.out w1 (hI2.out.below hb1).data (hJ2.out.below hb1).data)
       clear hb1)
    | (go_at_call 47
       (with_reducible refine (r2.out).mono ?_)
       rintro e w2 ⟨rfl, hb2⟩
       have hb2H := Hid.intro (hb1H.out.trans (hb2.mono hb1H.out.size))
       clear x0 x1 x2 x3 y0 y1 y2 y3
       obtain ⟨⟨x0, x1, x2, x3⟩, y0, y1, y2, y3⟩ := hall.out w2 hb2H.out
       have r3 := Hid.intro (q3.out w2 (hI2.out.below hb2H.out).equs (hJ2.out.below hb2H.out).equs)
       clear hb2)
    | (go_at_call 48
       (with_reducible refine (r3.out).mono ?_)
       rintro e w3 ⟨rfl, hb3⟩
       have hb3H := Hid.intro (hb2H.out.trans (hb3.mono hb2H.out.size))
       clear x0 x1 x2 x3 y0 y1 y2 y3
       obtain ⟨⟨x0, x1, x2, x3⟩, y0, y1, y2, y3⟩ := hall.out w3 hb3H.out
       have r4 := Hid.intro (q4.out w3 (hI2.out.below hb3H.out).globs (hJ2.out.below hb3H.out).globs)
       clear hb3)
    | (go_at_call 49
       (with_reducible refine (r4.out).mono ?_)
       rintro e w4 ⟨rfl, hb4⟩
       have hb4H := Hid.intro (hb3H.out.trans (hb4.mono hb3H.out.size))
       clear hb4))
  go_ret
  exact ⟨rfl, hBH.out.trans (hb4H.out.mono hBH.out.size)⟩
end Go.Proofs.YtmndccbeddaphaaGreatDoor
namespace Go.Proofs.YtmndccbeddaphaaGreatDoor
open Go.ChangeShapes Go.WideShapes Go.ChangeAt Go.RowKit Go.Sort
set_option linter.unusedVariables false
set_option maxRecDepth 100000
theorem cell_lt {w : World} {p : Addr} {v : Value} (h : w.cell? p = some v) : p.block < w.heap.size := by
  apply Decidable.byContradiction
  intro hn
  unfold World.cell? at h
  simp [Array.getElem?_eq_none (show w.heap.size ≤ p.block by omega)] at h
theorem Src.below {w w' : World} {v : Value} {m : Nat} {xs : List Value} (h : Src w v m xs) (hb : Below w.heap.size w w') : Src w' v m xs := by
  rcases h with h | ⟨a, c, rfl, h⟩
  · exact .inl h
  · exact .inr ⟨a, c, rfl, fun j u hj => (hb.cell (cell_lt (h j u hj))).trans (h j u hj)⟩
theorem info123 : (Tryz.prog.info? 107).map (fun i => (i.zero, i.size, i.bytes)) = some (some (.agg #[.string ⟨#[]⟩, .int .u32 0]), 2, 24) := by kernel_rfl
theorem own_set {w : World} {lo : Nat} {T : TypeId} {sz : Nat} {g n c : Nat} {xs : List Value} (h : w.ownsRow lo T sz (.slice (some ⟨g, 0, none⟩) n c) n xs) (k : Nat) (y : Value) : (w.setCell ⟨g, k, none⟩ y).ownsRow lo T sz (.slice (some ⟨g, 0, none⟩) n c) n (xs.set k y) ∧ w.grownBy (w.setCell ⟨g, k, none⟩ y) (some g) := by
  obtain ⟨hl, h⟩ := h
  rcases h with ⟨hv, _⟩ | ⟨g', cap, cur, hv, hlo, hg, h1, h2, h3, h4⟩
  · cases hv
  · injection hv with hv1 _ hv3
    cases hv1
    obtain ⟨r1, r2⟩ := row_set hg k y
    refine ⟨⟨by simpa using hl, .inr ⟨g, cap, _, by rw [hv3], hlo, r1, h1, h2, by simp [h3], ?_⟩⟩, r2⟩
    rw [Array.toList_setIfInBounds, List.take_set, h4]
theorem own_at {w : World} {lo : Nat} {T : TypeId} {sz : Nat} {g n c : Nat} {xs : List Value} (h : w.ownsRow lo T sz (.slice (some ⟨g, 0, none⟩) n c) n xs) : lo ≤ g ∧ g < w.heap.size ∧ (∀ k, k < xs.length → w.cell? ⟨g, k, none⟩ = xs[k]?) ∧ ∀ k, w.frozen? ⟨g, k, none⟩ = false := by
  have hh := h
  obtain ⟨hl, h⟩ := h
  rcases h with ⟨hv, _⟩ | ⟨g', cap, cur, hv, hlo, hg, h1, h2, h3, h4⟩
  · cases hv
  · injection hv with hv1 _ hv3
    cases hv1
    exact ⟨hlo, (Array.getElem?_eq_some_iff.1 hg).1, fun k hk => hh.cellAt k (by omega), fun k => by simp [World.frozen?, hg]⟩
theorem flat_set1 {α : Type} (f : α → List Value) (m : Nat) (hf : ∀ x, (f x).length = m) (p : List α) (i : Nat) (x x' : α) (j : Nat) (y : Value) (hx : p[i]? = some x) (hj : j < m) (he : f x' = (f x).set j y) : (p.flatMap f).set (i * m + j) y = (p.set i x').flatMap f := by
  induction p generalizing i with
  | nil => simp at hx
  | cons z r ih =>
    cases i with
    | zero =>
      simp at hx
      subst hx
      simp only [List.set_cons_zero, List.flatMap_cons, Nat.zero_mul, Nat.zero_add]
      rw [List.set_append_left _ _ (by rw [hf]; exact hj), he]
    | succ i =>
      simp only [List.set_cons_succ, List.flatMap_cons]
      have e1 : (i + 1) * m + j = m + (i * m + j) := by rw [Nat.succ_mul]; omega
      rw [e1, List.set_append_right _ _ (by rw [hf]; omega), hf, show m + (i * m + j) - m = i * m + j by omega, ih i (by simpa using hx)]
structure CpI (w0 : World) (g n : Nat) (l : List Itm) (i : Nat) (wr : World) : Prop where
  bel : Below w0.heap.size w0 wr
  own : ∃ p : List (Itm × Value), p.length = n ∧ wr.ownsRow w0.heap.size 86 10 (.slice (some ⟨g, 0, none⟩) n n) n (rowI p) ∧ (p.take i).map (·.1) = l.take i ∧ ∀ q ∈ p.take i, wr.ownsRow w0.heap.size 107 2 q.2 q.1.e.terms.length (rowT q.1.e.terms)
theorem own_type9 {w w' : World} {lo : Nat} {T : TypeId} {sz : Nat} {v : Value} {n : Nat} {xs : List Value} (h : w.ownsRow lo T sz v n xs) {G : Nat} {T2 : TypeId} {sz2 n2 c2 lo2 : Nat} {ys : List Value} (hG : w.ownsRow lo2 T2 sz2 (.slice (some ⟨G, 0, none⟩) n2 c2) n2 ys) (hT : T ≠ T2) (hg : w.grownBy w' (some G)) : w'.ownsRow lo T sz v n xs := by
  refine ⟨h.1, ?_⟩
  rcases h.2 with h | ⟨g, cap, cur, hv, hlo, hb, hr⟩
  · exact .inl h
  · refine .inr ⟨g, cap, cur, hv, hlo, ?_, hr⟩
    have hne : g ≠ G := by
      rintro rfl
      rcases hG.2 with ⟨hv2, _⟩ | ⟨g2, cap2, cur2, hv2, _, hb2, _⟩
      · cases hv2
      · injection hv2 with hv3
        cases hv3
        rw [hb] at hb2
        cases hb2
        exact hT rfl
    rw [hg.block g (Array.getElem?_eq_some_iff.1 hb).1 (fun e => hne (by cases e; rfl))]
    exact hb
theorem CpI.next {w0 : World} {G n0 : Nat} {l : List Itm} {i : Nat} {wr wS w1 : World} (hB : Below w0.heap.size w0 wr) {p : List (Itm × Value)} (hpl : p.length = n0) (hi : i < n0) (hown : wr.ownsRow w0.heap.size 86 10 (.slice (some ⟨G, 0, none⟩) n0 n0) n0 (rowI p)) (hmap : (p.take i).map (·.1) = l.take i) (heach : ∀ q ∈ p.take i, wr.ownsRow w0.heap.size 107 2 q.2 q.1.e.terms.length (rowT q.1.e.terms)) {x : Itm} (hx : l[i]? = some x) {v0 v1 : Value}
    (hS : wS.ownsRow w0.heap.size 86 10 (.slice (some ⟨G, 0, none⟩) n0 n0) n0 (rowI (p.set i (x, v0)))) (hgS : wr.grownBy wS (some G)) (hb1 : Below wS.heap.size wS w1) (ho1 : w1.ownsRow wS.heap.size 107 2 v1 x.e.terms.length (rowT x.e.terms)) :
    CpI w0 G n0 l (i + 1) ((w1.setCell ⟨G, i * 10 + 7, none⟩ v1).setCell ⟨G, i * 10 + 8, none⟩ (.int .u32 x.e.const)) := by
  have hS1 := own_keptB hS hb1
  obtain ⟨s1, s2⟩ := own_set hS1 (i * 10 + 7) v1
  obtain ⟨s3, s4⟩ := own_set s1 (i * 10 + 8) (.int .u32 x.e.const)
  have hgr := grown_trans s2 s4
  obtain ⟨hGlo, hGlt, _, _⟩ := own_at hS
  have hBS : Below w0.heap.size w0 wS := hB.grown hgS hB.size (fun j hj => by cases hj; exact hGlo)
  have hB1 : Below w0.heap.size w0 w1 := hBS.trans (hb1.mono hBS.size)
  have e1 : (rowI (p.set i (x, v0))).set (i * 10 + 7) v1 = rowI ((p.set i (x, v0)).set i (x, v1)) := flat_set1 (fun q : Itm × Value => (itmCells q.1 q.2).toList) 10 (fun _ => rfl) _ i (x, v0) (x, v1) 7 v1 (by rw [List.getElem?_set_self (by omega)]) (by omega) rfl
  have e2 : (rowI (p.set i (x, v1))).set (i * 10 + 8) (.int .u32 x.e.const) = rowI ((p.set i (x, v1)).set i (x, v1)) := flat_set1 (fun q : Itm × Value => (itmCells q.1 q.2).toList) 10 (fun _ => rfl) _ i (x, v1) (x, v1) 8 _ (by rw [List.getElem?_set_self (by omega)]) (by omega) rfl
  rw [e1, List.set_set, e2, List.set_set] at s3
  have htk : (p.set i (x, v1)).take (i + 1) = p.take i ++ [(x, v1)] := by
    rw [List.take_add_one, List.getElem?_set_self (by omega), List.take_set_of_le (Nat.le_refl _)]
    rfl
  refine ⟨hB1.grown hgr hB1.size (fun j hj => by cases hj; exact hGlo), p.set i (x, v1), by simpa using hpl, s3, ?_, fun q hq => ?_⟩
  · rw [htk, List.map_append, hmap, List.take_add_one, hx]
    rfl
  · rw [htk] at hq
    rcases List.mem_append.1 hq with hq | hq
    · exact own_type9 (own_keptB (own_type9 (heach q hq) hown (by decide) hgS) hb1) hS1 (by decide) hgr
    · rw [List.mem_singleton] at hq
      subst hq
      exact own_weaken (own_low ho1 hgr hGlt) hBS.size
end Go.Proofs.YtmndccbeddaphaaGreatDoor
