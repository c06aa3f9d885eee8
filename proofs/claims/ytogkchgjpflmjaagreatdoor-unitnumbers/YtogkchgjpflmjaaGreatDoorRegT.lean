/- A region that draws its order and begins by a call that writes: two operations that only read, the call, then what only reads. -/
import Derived.Test.YtogkchgjpflmjaaGreatDoorKn1
import Derived.Test.YtogkchgjpflmjaaGreatDoorT1
import Derived.Test.YtogkchgjpflmjaaGreatDoorQuietB
import Derived.Deep.QuietTactic
import Derived.Test.YtogkchgjpflmjaaGreatDoorLab
/- The law's few; spandrelkeep's SameItem, SameItems. -/
namespace Go.Proofs.YtogkchgjpflmjaaGreatDoor
open Go.ChangeShapes Go.WideShapes Go.ChangeAt Go.RowKit Go.Sort
set_option linter.unusedVariables false
set_option maxRecDepth 100000
theorem few9 (l : List UInt8) (n : Nat) (hs : l.length ≤ 9223372036854775807) (hn : n ≤ 1000000) (w : World) :
    Calls Tryz.prog 16 #[.string (str l), .int .i64 (n : Int)] w fun e w' => e = .returned (.string (str (l.take n))) ∧ w' = w := by
  by_cases h : n < l.length
  · have e : (str l).extract 0 n = str (l.take n) := by
      apply ByteArray.ext
      simp [str, ByteArray.data_extract]
    have hsz : (str l).size = l.length := rfl
    rw [← hsz] at h hs
    rw [← e]
    clear e hsz
    generalize str l = s at *
    go_enter Tryz.func16, Tryz.ntmps16
    go_wp2
    all_goals first
      | omega
      | (go_ret; exact ⟨rfl, rfl⟩)
  · rw [List.take_of_length_le (by omega)]
    have hsz : (str l).size = l.length := rfl
    rw [← hsz] at h hs
    clear hsz
    generalize str l = s at *
    go_enter Tryz.func16, Tryz.ntmps16
    go_wp2
    all_goals first
      | omega
      | (go_ret; exact ⟨rfl, rfl⟩)
theorem sameL_self (xs : List Tm) (k : Int) : sameL xs xs k k = true := by simp [sameL]
theorem itIn_at {w : World} {a : Option Addr} {l : List Itm} (h : ItIn w a l) {i : Nat} {x : Itm} (hi : l[i]? = some x) : ∃ g o, a = some ⟨g, o, none⟩ ∧ g < w.heap.size ∧ ∃ va vc, ItAt w g (o + i * 10) x va x.e.terms.length vc ∧ TmLies w va x.e.terms := by
  rcases h with h | ⟨g, o, h1, h2, h3⟩
  · subst h; cases hi
  · exact ⟨g, o, h1, h2, h3 i x hi⟩
set_option maxHeartbeats 1000000 in
theorem sameItem_any (x : Itm) (va vb : Option Addr) (vc vd : Nat) (w : World) (h1 : TmLies w va x.e.terms) (h2 : TmLies w vb x.e.terms) (hm : x.e.terms.length ≤ 9000000) :
    Calls Tryz.prog 61 #[.agg (itmCells x (.slice va x.e.terms.length vc)), .agg (itmCells x (.slice vb x.e.terms.length vd))] w fun e w' => e = .returned (.bool true) ∧ Below w.heap.size w w' := by
  have h31 : Hid (∀ w1, Below w.heap.size w w1 → Calls Tryz.prog 78 #[linV (.slice va x.e.terms.length vc) x.e.const, linV (.slice vb x.e.terms.length vd) x.e.const] w1 fun e w' => e = .returned (.bool true) ∧ Below w1.heap.size w1 w') := fun w1 hb => by
    have := refSame_any va vb vc vd x.e.terms x.e.terms x.e.const x.e.const w1 (h1.below hb (Nat.le_refl _)) (h2.below hb (Nat.le_refl _)) hm hm
    rwa [sameL_self] at this
  clear h1 h2
  generalize x.e.terms.length = n at h31 hm ⊢
  have hb2 : Hid (Below w.heap.size w ((w.alloc (.cells (itmCells x (.slice va n vc)) 91)).alloc (.cells (itmCells x (.slice vb n vd)) 91))) := (below_alloc w _).alloc (by simp) _
  have ht := Hid.intro (two_rows' w (itmCells x (.slice va n vc)) (itmCells x (.slice vb n vd)) 91 91)
  go_enter Tryz.func61, Tryz.ntmps61
  go_wp2_with (go_at_call 78; (with_reducible refine (h31.out _ hb2.out).mono ?_); rintro e w2 ⟨rfl, hb3⟩; have z9 : w2.cell? ⟨w.heap.size, 9, none⟩ = some (.int .i64 x.n) := (cell_blockT (show w2.heap[w.heap.size]? = some (.cells (itmCells x (.slice va n vc)) 91 (0, 0)) from by rw [hb3.block _ (by simp; omega)]; exact ht.out.1) 9).trans rfl; have y9 : w2.cell? ⟨w.heap.size + 1, 9, none⟩ = some (.int .i64 x.n) := (cell_blockT (show w2.heap[w.heap.size + 1]? = some (.cells (itmCells x (.slice vb n vd)) 91 (0, 0)) from by rw [hb3.block _ (by simp)]; exact ht.out.2) 9).trans rfl)
  all_goals first | omega | skip
  go_ret
  exact ⟨rfl, hb2.out.trans (hb3.mono (by simp; omega))⟩
set_option maxHeartbeats 2000000 in
theorem sameItems_any (l : List Itm) (hm : l.length ≤ 1100000) (ht : ∀ x ∈ l, x.e.terms.length ≤ 9000000) (ai bi : Option Addr) (ni ci di : Nat) (w : World) (h1 : ItIn w ai l) (h2 : ItIn w bi l) (hn : Hid (ni = l.length)) :
    Calls Tryz.prog 26 #[.slice ai ni ci, .slice bi ni di] w fun e w' => e = .returned (.bool true) ∧ Below w.heap.size w w' := by
  have hnm : ni ≤ 1100000 := by rw [hn.out]; exact hm
  clear hm
  replace h1 := Hid.intro h1
  replace h2 := Hid.intro h2
  go_enter Tryz.func26, Tryz.ntmps26
  go_wp2
  all_goals first | omega | skip
  go_loopw [5] (fun v5 wr => ∃ i : Nat, i ≤ ni ∧ v5 = .int .i64 (i : Int) ∧ Hid (Below w.heap.size w wr)) (fun v5 wr => ni - (intOf v5).toNat)
  case atStart => exact ⟨0, by omega, rfl, Hid.intro (Below.refl _ _)⟩
  case round =>
    obtain ⟨i, hi, rfl, hB⟩ := hrel
    by_cases hlt : i < ni
    · obtain ⟨x, hx⟩ : ∃ x, l[i]? = some x := ⟨l[i]'(by rw [← hn.out]; exact hlt), List.getElem?_eq_getElem _⟩
      obtain ⟨g, o, hg, hgl, xa, xc, hI, hTm⟩ := itIn_at h1.out hx
      obtain ⟨g', o', hg', hgl', ya, yc, hJ, hTn⟩ := itIn_at h2.out hx
      subst hg
      subst hg'
      have hP : Hid (∀ p : BelowOf wr, Below w.heap.size w p.wd) := fun p => hB.out.trans (p.h.mono hB.out.size)
      have h56 : Hid (∀ p : BelowOf wr, Calls Tryz.prog 61 #[.agg (itmCells x (.slice xa x.e.terms.length xc)), .agg (itmCells x (.slice ya x.e.terms.length yc))] p.wd fun e w' => e = .returned (.bool true) ∧ Below p.wd.heap.size p.wd w') := fun p => sameItem_any x xa ya xc yc p.wd (hTm.below (hP.out p) (Nat.le_refl _)) (hTn.below (hP.out p) (Nat.le_refl _)) (ht x (List.mem_of_getElem? hx))
      have cI := fun p : BelowOf wr => hI.below (hP.out p) hgl
      have cJ := fun p : BelowOf wr => hJ.below (hP.out p) hgl'
      generalize x.e.terms.length = xn at h56 cI cJ
      have c0 := fun p => (cI p).kind
      have c1 := fun p => (cI p).name
      have c2 := fun p => (cI p).op
      have c3 := fun p => (cI p).a
      have c4 := fun p => (cI p).b
      have c5 := fun p => (cI p).m
      have c6 := fun p => (cI p).form
      have c7 := fun p => (cI p).terms
      have c8 := fun p => (cI p).const
      have c9 := fun p => (cI p).n
      have d0 := fun p => (cJ p).kind
      have d1 := fun p => (cJ p).name
      have d2 := fun p => (cJ p).op
      have d3 := fun p => (cJ p).a
      have d4 := fun p => (cJ p).b
      have d5 := fun p => (cJ p).m
      have d6 := fun p => (cJ p).form
      have d7 := fun p => (cJ p).terms
      have d8 := fun p => (cJ p).const
      have d9 := fun p => (cJ p).n
      clear cI cJ hI hJ hTm hTn hx hgl hgl'
      have hlt2 : (i : Int) < (ni : Int) := by omega
      have i0 : (0 : Int) ≤ (i : Int) := by omega
      go_wp2_with fail
      all_goals first | omega | skip
      refine wp_region_quiet_below (by kernel_rfl) (by kernel_rfl) ?_
      repeat (first | (with_reducible refine wpQuiet_skip (by with_unfolding_all rfl) ?_; simp only [Act.put, List.setIfInBounds_toArray, List.set_cons_zero, List.set_cons_succ]) | (with_reducible refine wpQuiet_step (fun K hK => ?_); go_simp; first | (with_reducible refine hK _ ?_; clear hK K) | (apply Exists.intro; refine ⟨fun p => ?_, hK _ ?_⟩; (go_at_call 61; with_reducible refine below_calls (h56.out p)); clear hK K)))
      with_reducible refine wpQuiet_nil ?_
      intro _ hw'
      obtain ⟨pq, hw''⟩ := hw'
      subst hw''
      clear c0 c1 c2 c3 c4 c5 c6 c7 c8 c9 d0 d1 d2 d3 d4 d5 d6 d7 d8 d9
      have hend := Hid.intro (hP.out pq)
      go_wp2_with fail
      all_goals first | omega | skip
      go_roundw
      case rel => exact ⟨i + 1, by omega, by go_num, hend⟩
      case measure => simp [intOf]; omega
    · have hin : i = ni := by omega
      subst hin
      have hlt3 : ¬ ((i : Int) < (i : Int)) := by omega
      go_wp2
      all_goals first | omega | skip
      go_ret
      exact ⟨rfl, hB.out⟩
end Go.Proofs.YtogkchgjpflmjaaGreatDoor
/- spandrelbook's Same over texts; spandrelkeep's SameEqus, SameUnit. -/
namespace Go.Proofs.YtogkchgjpflmjaaGreatDoor
open Go.ChangeShapes Go.WideShapes Go.ChangeAt Go.RowKit Go.Sort
set_option linter.unusedVariables false
set_option maxRecDepth 100000
theorem stIn_at {w : World} {a : Option Addr} {l : List (List UInt8)} (h : StIn w a l) {i : Nat} {x : List UInt8} (hi : l[i]? = some x) : ∃ g o, a = some ⟨g, o, none⟩ ∧ g < w.heap.size ∧ w.cell? ⟨g, o + i, none⟩ = some (.string (str x)) := by
  rcases h with h | ⟨g, o, h1, h2, h3⟩
  · subst h; cases hi
  · exact ⟨g, o, h1, h2, h3 i x hi⟩
theorem eqIn_at {w : World} {a : Option Addr} {l : List (List UInt8 × Lin)} (h : EqIn w a l) {i : Nat} {q : List UInt8 × Lin} (hi : l[i]? = some q) : ∃ g o, a = some ⟨g, o, none⟩ ∧ g < w.heap.size ∧ ∃ va vc, w.cell? ⟨g, o + i * 3, none⟩ = some (.string (str q.1)) ∧ w.cell? ⟨g, o + i * 3 + 1, none⟩ = some (.slice va q.2.terms.length vc) ∧ w.cell? ⟨g, o + i * 3 + 2, none⟩ = some (.int .u32 q.2.const) ∧ TmLies w va q.2.terms := by
  rcases h with h | ⟨g, o, h1, h2, h3⟩
  · subst h; cases hi
  · exact ⟨g, o, h1, h2, h3 i q hi⟩
set_option maxHeartbeats 2000000 in
theorem sameStr_any (l : List (List UInt8)) (hm : l.length ≤ 1100000) (ai bi : Option Addr) (ni ci di : Nat) (w : World) (h1 : StIn w ai l) (h2 : StIn w bi l) (hn : Hid (ni = l.length)) :
    Calls Tryz.prog 10 #[.slice ai ni ci, .slice bi ni di] w fun e w' => e = .returned (.bool true) ∧ Below w.heap.size w w' := by
  have hnm : ni ≤ 1100000 := by rw [hn.out]; exact hm
  clear hm
  replace h1 := Hid.intro h1
  replace h2 := Hid.intro h2
  go_enter Tryz.func10, Tryz.ntmps10
  go_wp2
  all_goals first | omega | skip
  go_loopw [5] (fun v5 wr => ∃ i : Nat, i ≤ ni ∧ v5 = .int .i64 (i : Int) ∧ Hid (Below w.heap.size w wr)) (fun v5 wr => ni - (intOf v5).toNat)
  case atStart => exact ⟨0, by omega, rfl, Hid.intro (Below.refl _ _)⟩
  case round =>
    obtain ⟨i, hi, rfl, hB⟩ := hrel
    by_cases hlt : i < ni
    · obtain ⟨x, hx⟩ : ∃ x, l[i]? = some x := ⟨l[i]'(by rw [← hn.out]; exact hlt), List.getElem?_eq_getElem _⟩
      obtain ⟨g, o, hg, hgl, hI⟩ := stIn_at h1.out hx
      obtain ⟨g', o', hg', hgl', hJ⟩ := stIn_at h2.out hx
      subst hg
      subst hg'
      have hP : Hid (∀ p : BelowOf wr, Below w.heap.size w p.wd) := fun p => hB.out.trans (p.h.mono hB.out.size)
      have c0 : ∀ p : BelowOf wr, p.wd.cell? ⟨g, o + i, none⟩ = some (.string (str x)) := fun p => ((hP.out p).cell (p := ⟨g, _, none⟩) hgl).trans hI
      have d0 : ∀ p : BelowOf wr, p.wd.cell? ⟨g', o' + i, none⟩ = some (.string (str x)) := fun p => ((hP.out p).cell (p := ⟨g', _, none⟩) hgl').trans hJ
      clear hI hJ hx hgl hgl'
      have hlt2 : (i : Int) < (ni : Int) := by omega
      have i0 : (0 : Int) ≤ (i : Int) := by omega
      go_wp2_with fail
      all_goals first | omega | skip
      refine wp_region_quiet_below (by kernel_rfl) (by kernel_rfl) ?_
      repeat (first | (with_reducible refine wpQuiet_skip (by with_unfolding_all rfl) ?_; simp only [Act.put, List.setIfInBounds_toArray, List.set_cons_zero, List.set_cons_succ]) | (with_reducible refine wpQuiet_step (fun K hK => ?_); go_simp; first | (with_reducible refine hK _ ?_; clear hK K) | (apply Exists.intro; refine ⟨fun p => ?_, hK _ ?_⟩; fail; clear hK K)))
      with_reducible refine wpQuiet_nil ?_
      intro _ hw'
      obtain ⟨pq, hw''⟩ := hw'
      subst hw''
      clear c0 d0
      have hend := Hid.intro (hP.out pq)
      go_wp2_with fail
      all_goals first | omega | skip
      go_roundw
      case rel => exact ⟨i + 1, by omega, by go_num, hend⟩
      case measure => simp [intOf]; omega
    · have hin : i = ni := by omega
      subst hin
      have hlt3 : ¬ ((i : Int) < (i : Int)) := by omega
      go_wp2
      all_goals first | omega | skip
      go_ret
      exact ⟨rfl, hB.out⟩
set_option maxHeartbeats 2000000 in
theorem sameEqus_any (l : List (List UInt8 × Lin)) (hm : l.length ≤ 1100000) (ht : ∀ x ∈ l, x.2.terms.length ≤ 9000000) (ai bi : Option Addr) (ni ci di : Nat) (w : World) (h1 : EqIn w ai l) (h2 : EqIn w bi l) (hn : Hid (ni = l.length)) :
    Calls Tryz.prog 40 #[.slice ai ni ci, .slice bi ni di] w fun e w' => e = .returned (.bool true) ∧ Below w.heap.size w w' := by
  have hnm : ni ≤ 1100000 := by rw [hn.out]; exact hm
  clear hm
  replace h1 := Hid.intro h1
  replace h2 := Hid.intro h2
  go_enter Tryz.func40, Tryz.ntmps40
  go_wp2
  all_goals first | omega | skip
  go_loopw [5] (fun v5 wr => ∃ i : Nat, i ≤ ni ∧ v5 = .int .i64 (i : Int) ∧ Hid (Below w.heap.size w wr)) (fun v5 wr => ni - (intOf v5).toNat)
  case atStart => exact ⟨0, by omega, rfl, Hid.intro (Below.refl _ _)⟩
  case round =>
    obtain ⟨i, hi, rfl, hB⟩ := hrel
    by_cases hlt : i < ni
    · obtain ⟨x, hx⟩ : ∃ x, l[i]? = some x := ⟨l[i]'(by rw [← hn.out]; exact hlt), List.getElem?_eq_getElem _⟩
      obtain ⟨g, o, hg, hgl, xa, xc, i0', i1', i2', hTm⟩ := eqIn_at h1.out hx
      obtain ⟨g', o', hg', hgl', ya, yc, j0', j1', j2', hTn⟩ := eqIn_at h2.out hx
      subst hg
      subst hg'
      have hP : Hid (∀ p : BelowOf wr, Below w.heap.size w p.wd) := fun p => hB.out.trans (p.h.mono hB.out.size)
      have hfe := ht x (List.mem_of_getElem? hx)
      have h78 : Hid (∀ p : BelowOf wr, Calls Tryz.prog 78 #[linV (.slice xa x.2.terms.length xc) x.2.const, linV (.slice ya x.2.terms.length yc) x.2.const] p.wd fun e w' => e = .returned (.bool true) ∧ Below p.wd.heap.size p.wd w') := fun p => by
        have := refSame_any xa ya xc yc x.2.terms x.2.terms x.2.const x.2.const p.wd (hTm.below (hP.out p) (Nat.le_refl _)) (hTn.below (hP.out p) (Nat.le_refl _)) hfe hfe
        rwa [sameL_self] at this
      generalize x.2.terms.length = xn at h78 i1' j1'
      have c0 : ∀ p : BelowOf wr, p.wd.cell? ⟨g, o + i * 3, none⟩ = some (.string (str x.1)) := fun p => ((hP.out p).cell (p := ⟨g, _, none⟩) hgl).trans i0'
      have c1 : ∀ p : BelowOf wr, p.wd.cell? ⟨g, o + i * 3 + 1, none⟩ = some (.slice xa xn xc) := fun p => ((hP.out p).cell (p := ⟨g, _, none⟩) hgl).trans i1'
      have c2 : ∀ p : BelowOf wr, p.wd.cell? ⟨g, o + i * 3 + 2, none⟩ = some (.int .u32 x.2.const) := fun p => ((hP.out p).cell (p := ⟨g, _, none⟩) hgl).trans i2'
      have d0 : ∀ p : BelowOf wr, p.wd.cell? ⟨g', o' + i * 3, none⟩ = some (.string (str x.1)) := fun p => ((hP.out p).cell (p := ⟨g', _, none⟩) hgl').trans j0'
      have d1 : ∀ p : BelowOf wr, p.wd.cell? ⟨g', o' + i * 3 + 1, none⟩ = some (.slice ya xn yc) := fun p => ((hP.out p).cell (p := ⟨g', _, none⟩) hgl').trans j1'
      have d2 : ∀ p : BelowOf wr, p.wd.cell? ⟨g', o' + i * 3 + 2, none⟩ = some (.int .u32 x.2.const) := fun p => ((hP.out p).cell (p := ⟨g', _, none⟩) hgl').trans j2'
      clear i0' i1' i2' j0' j1' j2' hTm hTn hx hgl hgl' hfe
      have hlt2 : (i : Int) < (ni : Int) := by omega
      have i0 : (0 : Int) ≤ (i : Int) := by omega
      go_wp2_with fail
      all_goals first | omega | skip
      refine wp_region_quiet_below (by kernel_rfl) (by kernel_rfl) ?_
      repeat (first | (with_reducible refine wpQuiet_skip (by with_unfolding_all rfl) ?_; simp only [Act.put, List.setIfInBounds_toArray, List.set_cons_zero, List.set_cons_succ]) | (with_reducible refine wpQuiet_step (fun K hK => ?_); go_simp; first | (with_reducible refine hK _ ?_; clear hK K) | (apply Exists.intro; refine ⟨fun p => ?_, hK _ ?_⟩; (go_at_call 78; with_reducible refine below_calls (h78.out p)); clear hK K)))
      with_reducible refine wpQuiet_nil ?_
      intro _ hw'
      obtain ⟨pq, hw''⟩ := hw'
      subst hw''
      clear c0 c1 c2 d0 d1 d2
      have hend := Hid.intro (hP.out pq)
      go_wp2_with fail
      all_goals first | omega | skip
      go_roundw
      case rel => exact ⟨i + 1, by omega, by go_num, hend⟩
      case measure => simp [intOf]; omega
    · have hin : i = ni := by omega
      subst hin
      have hlt3 : ¬ ((i : Int) < (i : Int)) := by omega
      go_wp2
      all_goals first | omega | skip
      go_ret
      exact ⟨rfl, hB.out⟩
set_option maxHeartbeats 8000000 in
theorem sameUnit_any (ta da ea ga tb db eb gb : Option Addr) (tc dc ec gc tk dk ek gk : Nat) (u : UVal) (hu : HeldU u) (w : World) (hI : UnitIn w ta da ea ga u) (hJ : UnitIn w tb db eb gb u) :
    Calls Tryz.prog 12 #[.agg (unitV ta tc da dc ea ec ga gc u), .agg (unitV tb tk db dk eb ek gb gk u)] w fun e w' => e = .returned (.bool true) ∧ Below w.heap.size w w' := by
  have hB2 : Below w.heap.size w ((w.alloc (.cells (unitV ta tc da dc ea ec ga gc u) 26)).alloc (.cells (unitV tb tk db dk eb ek gb gk u) 26)) := (below_alloc w _).alloc (by simp) _
  have hrows := two_rows' w (unitV ta tc da dc ea ec ga gc u) (unitV tb tk db dk eb ek gb gk u) 26 26
  have hI2 := Hid.intro (hI.below hB2)
  have hJ2 := Hid.intro (hJ.below hB2)
  have b1 := Hid.intro hrows.1
  have b2 := Hid.intro hrows.2
  have hBH := Hid.intro hB2
  have q1 := Hid.intro (fun (w1 : World) (p1 : ItIn w1 ta u.text) (p2 : ItIn w1 tb u.text) => sameItems_any u.text hu.text.1 (fun x hx => (hu.text.2 x hx).few) ta tb u.text.length tc tk w1 p1 p2 (Hid.intro rfl))
  have q2 := Hid.intro (fun (w1 : World) (p1 : ItIn w1 da u.data) (p2 : ItIn w1 db u.data) => sameItems_any u.data hu.data.1 (fun x hx => (hu.data.2 x hx).few) da db u.data.length dc dk w1 p1 p2 (Hid.intro rfl))
  have q3 := Hid.intro (fun (w1 : World) (p1 : EqIn w1 ea u.equs) (p2 : EqIn w1 eb u.equs) => sameEqus_any u.equs hu.equs.1 (fun x hx => (hu.equs.2 x hx).few) ea eb u.equs.length ec ek w1 p1 p2 (Hid.intro rfl))
  have q4 := Hid.intro (fun (w1 : World) (p1 : StIn w1 ga u.globs) (p2 : StIn w1 gb u.globs) => sameStr_any u.globs hu.globs ga gb u.globs.length gc gk w1 p1 p2 (Hid.intro rfl))
  clear hrows hB2 hI hJ hu
  unfold unitV at *
  generalize u.text.length = n1 at *
  generalize u.data.length = n2 at *
  generalize u.equs.length = n3 at *
  generalize u.globs.length = n4 at *
  go_enter Tryz.func12, Tryz.ntmps12
  have hall := Hid.intro (fun (w1 : World) (hb : Below ((w.alloc (.cells (unit4 (.slice ta n1 tc) (.slice da n2 dc) (.slice ea n3 ec) (.slice ga n4 gc)) 26)).alloc (.cells (unit4 (.slice tb n1 tk) (.slice db n2 dk) (.slice eb n3 ek) (.slice gb n4 gk)) 26)).heap.size ((w.alloc (.cells (unit4 (.slice ta n1 tc) (.slice da n2 dc) (.slice ea n3 ec) (.slice ga n4 gc)) 26)).alloc (.cells (unit4 (.slice tb n1 tk) (.slice db n2 dk) (.slice eb n3 ek) (.slice gb n4 gk)) 26)) w1) => And.intro (four_read ((hb.block _ (blk_lt b1.out)).trans b1.out)) (four_read ((hb.block _ (blk_lt b2.out)).trans b2.out)))
  go_wp2_with (first
    | (go_at_call 26
       (with_reducible refine (q1.out _ hI2.out.text hJ2.out.text).mono ?_)
       rintro e w1 ⟨rfl, hb1⟩
       obtain ⟨⟨x0, x1, x2, x3⟩, y0, y1, y2, y3⟩ := hall.out w1 hb1
       have hb1H := Hid.intro hb1
       have r2 := Hid.intro (q2.out w1 (hI2.out.below hb1).data (hJ2.out.below hb1).data)
       clear hb1)
    | (go_at_call 26
       (with_reducible refine (r2.out).mono ?_)
       rintro e w2 ⟨rfl, hb2⟩
       have hb2H := Hid.intro (hb1H.out.trans (hb2.mono hb1H.out.size))
       clear x0 x1 x2 x3 y0 y1 y2 y3
       obtain ⟨⟨x0, x1, x2, x3⟩, y0, y1, y2, y3⟩ := hall.out w2 hb2H.out
       have r3 := Hid.intro (q3.out w2 (hI2.out.below hb2H.out).equs (hJ2.out.below hb2H.out).equs)
       clear hb2)
    | (go_at_call 40
       (with_reducible refine (r3.out).mono ?_)
       rintro e w3 ⟨rfl, hb3⟩
       have hb3H := Hid.intro (hb2H.out.trans (hb3.mono hb2H.out.size))
       clear x0 x1 x2 x3 y0 y1 y2 y3
       obtain ⟨⟨x0, x1, x2, x3⟩, y0, y1, y2, y3⟩ := hall.out w3 hb3H.out
       have r4 := Hid.intro (q4.out w3 (hI2.out.below hb3H.out).globs (hJ2.out.below hb3H.out).globs)
       clear hb3)
    | (go_at_call 10
       (with_reducible refine (r4.out).mono ?_)
       rintro e w4 ⟨rfl, hb4⟩
       have hb4H := Hid.intro (hb3H.out.trans (hb4.mono hb3H.out.size))
       clear hb4))
  go_ret
  exact ⟨rfl, hBH.out.trans (hb4H.out.mono hBH.out.size)⟩
end Go.Proofs.YtogkchgjpflmjaaGreatDoor
/- UnitNumbers' walk. -/
/- Lines that hold nothing. -/
namespace Go.Proofs.YtogkchgjpflmjaaGreatDoor
set_option linter.unusedVariables false
theorem linesOf_empty (n : Nat) : linesOf (List.replicate n 10) = List.replicate n [] := by
  induction n with
  | zero => exact linesOf_nil
  | succ n ih =>
    rw [linesOf_more _ (by simp [List.replicate_succ])]
    have h0 : nlLen (List.replicate (n + 1) 10) = 0 := by simp [List.replicate_succ, nlLen]
    rw [h0, List.take_zero, show 0 + 1 = 1 from rfl, List.replicate_succ, List.drop_succ_cons, List.drop_zero, ih, List.replicate_succ]
theorem takeF_emptyN (n : Nat) : takeF asmE n [] = .ok asmE := by kernel_rfl
theorem runF_empty (m : Nat) : ∀ n, runF asmE n (List.replicate m []) = .ok asmE := by
  induction m with
  | zero => intro n; rfl
  | succ m ih => intro n; rw [List.replicate_succ]; unfold runF; rw [takeF_emptyN]; exact ih (n + 1)
theorem asm_lines : asmF (List.replicate 4096 10) = .ok asmE := by
  unfold asmF
  rw [linesOf_empty, List.length_replicate, List.length_replicate, if_neg (by omega), if_neg (by omega), runF_empty]
  rfl
theorem asm_lines_more : asmF (List.replicate 4097 10) = .error (4097, 4) := by
  unfold asmF
  rw [linesOf_empty, List.length_replicate, List.length_replicate, if_neg (by omega), if_pos (by omega)]
theorem asm_long : asmF (List.replicate 65537 0) = .error (0, 3) := by
  unfold asmF
  rw [List.length_replicate, if_pos (by omega)]
theorem asm_none : asmF [] = .ok asmE := by
  unfold asmF
  rw [linesOf_nil]
  rfl
end Go.Proofs.YtogkchgjpflmjaaGreatDoor
/- Chapter 9's closed runs. -/
namespace Go.Proofs.YtogkchgjpflmjaaGreatDoor
open Go.ChangeShapes Go.WideShapes Go.ChangeAt Go.RowKit Go.Sort
set_option linter.unusedVariables false
set_option maxRecDepth 100000
def xSrc : List UInt8 := [115, 101, 99, 116, 105, 111, 110, 32, 100, 97, 116, 97, 10, 120, 58, 32, 119, 111, 114, 100, 32, 121, 44, 32, 51, 10, 103, 108, 111, 98, 97, 108, 32, 120, 10, 103, 108, 111, 98, 97, 108, 32, 120]
theorem x_asm : ∃ A, asmF xSrc = .ok A ∧ A.text = [] ∧ A.data.length = 3 ∧ A.asked.map (·.1) = [[120], [120]] ∧ (uvA A).names = [[120]] := by
  have h : asmT xSrc (fun | .ok A => A.text.isEmpty && A.data.length == 3 && A.asked.map (·.1) == [[120], [120]] && (labN A.text ++ labN A.data ++ A.equs.map (·.1)) == [[120]] | _ => false) = true := by decide +kernel
  dsimp only [asmT] at h
  split at h
  · rename_i A e
    simp only [Bool.and_eq_true, beq_iff_eq, List.isEmpty_iff] at h
    exact ⟨A, e, h.1.1.1, h.1.1.2, h.1.2, h.2⟩
  · cases h
theorem glob_x {A : Asm} (h : A.asked.map (·.1) = [[120], [120]]) : globF A = [[120]] := by
  unfold globF
  rw [h]
  have hs : sortS [[120], [120]] = [[120], [120]] := by
    unfold sortS
    simp [List.mergeSort, List.MergeSort.Internal.splitInTwo]
  rw [hs]
  decide +kernel
theorem sort_one (s : List UInt8) : sortS [s] = [s] := by
  unfold sortS
  simp
theorem c1_asm : asmF [103, 108, 111, 98, 97, 108, 32, 98] = .error (1, 23) := asmT_err (by decide +kernel)
theorem c2_asm : asmF [103, 108, 111, 98, 97, 108, 32, 98, 10, 110, 111, 112, 101] = .error (2, 20) := asmT_err (by decide +kernel)
theorem c3_asm : asmF [114, 49, 58, 32, 110, 111, 112] = .error (1, 21) := asmT_err (by decide +kernel)
theorem c4_asm : asmF [101, 113, 117, 32, 120, 44, 32, 120, 42, 120] = .error (1, 21) := asmT_err (by decide +kernel)
theorem c5_asm : asmF [120, 58, 32, 101, 113, 117, 32, 120, 44, 32, 49] = .error (1, 22) := asmT_err (by decide +kernel)
end Go.Proofs.YtogkchgjpflmjaaGreatDoor
/- unit's Names. -/
namespace Go.Proofs.YtogkchgjpflmjaaGreatDoor
open Go.ChangeShapes Go.WideShapes Go.ChangeAt Go.RowKit Go.Sort
set_option linter.unusedVariables false
set_option maxRecDepth 100000
theorem setCell_self {w : World} {g o : Nat} {v : Value} {cs : Array Value} {T : TypeId} {r : Nat × Nat} (hb : w.heap[g]? = some (.cells cs T r)) (hc : cs[o]? = some v) : w.setCell ⟨g, o, none⟩ v = w := by
  have hcs : cs.setIfInBounds o v = cs := by
    obtain ⟨h1, h2⟩ := Array.getElem?_eq_some_iff.1 hc
    rw [Array.setIfInBounds, dif_pos h1, ← h2, Array.set_getElem_self]
  obtain ⟨hl, he⟩ := Array.getElem?_eq_some_iff.1 hb
  have hm : w.heap.modify g (fun | .cells c elem frozen => .cells (if (⟨g, o, none⟩ : Addr).spot.isSome then c else c.setIfInBounds o v) elem frozen | o => o) = w.heap := by
    apply Array.ext
    · simp
    · intro i h1 h2
      rw [Array.getElem_modify]
      split
      · rename_i hgi
        subst hgi
        rw [he]
        simp [hcs]
      · rfl
  unfold World.setCell
  exact congrArg (fun h => { w with heap := h }) hm
set_option maxHeartbeats 4000000 in
theorem names_bad (ta : Option Addr) (tc : Nat) (da : Option Addr) (dc : Nat) (ea : Option Addr) (ec : Nat) (ga : Option Addr) (gc : Nat) (u : UVal) (hu : HeldU u) (w : World) (hT : Tab w) (hI : UnitIn w ta da ea ga u) (n : Int) (hn : RightN u n) (h0 : n ≠ 0) :
    Calls Tryz.prog 11 #[.agg (unitV ta tc da dc ea ec ga gc u)] w fun e w' => e = .returned (.slice none 0 0) ∧ Below w.heap.size w w' := by
  have hB0 : Below w.heap.size w (w.alloc (.cells (unitV ta tc da dc ea ec ga gc u) 26)) := below_alloc w _
  have hr := Hid.intro (unitRight_is ta tc da dc ea ec ga gc u hu _ (hT.alloc (.cells (unitV ta tc da dc ea ec ga gc u) 26)) (hI.below hB0) n hn)
  have hBH := Hid.intro hB0
  have hne : (n == 0) = false := by simpa using h0
  obtain ⟨c0, c1, c2, c3⟩ := four_read (heap_alloc_new w (.cells (unitV ta tc da dc ea ec ga gc u) 26))
  clear hB0 hI hT hn hu
  unfold unitV at *
  go_enter Tryz.func11, Tryz.ntmps11
  go_wp2_with (go_at_call 14; (with_reducible refine (hr.out).mono ?_); rintro e w1 ⟨rfl, hb1⟩; have hb1H := Hid.intro (hBH.out.trans (hb1.mono hBH.out.size)); clear hb1 c0 c1 c2 c3)
  all_goals first | omega | (go_ret; exact ⟨rfl, hb1H.out⟩) | skip
theorem nms_at {w0 : World} {ga : Option Addr} {gc n : Nat} {ns : List (List UInt8)} {wr : World} (h : NmS w0 ga gc ns n wr) {i : Nat} (hi : i < n) : ∃ g x, ga = some ⟨g, 0, none⟩ ∧ ns[i]? = some x ∧ w0.heap.size ≤ g ∧ g < wr.heap.size ∧ wr.cell? ⟨g, i, none⟩ = some (.string (str x)) ∧ wr.frozen? ⟨g, i, none⟩ = false ∧ ∀ w2, Below wr.heap.size wr w2 → w2.setCell ⟨g, i, none⟩ (.string (str x)) = w2 := by
  have hl := h.len
  obtain ⟨x, hx⟩ : ∃ x, ns[i]? = some x := ⟨ns[i]'(by omega), List.getElem?_eq_getElem _⟩
  rcases h.own.2 with ⟨hv, h0⟩ | ⟨g, cap, cur, hv, hlo, hg, h1, h2, h3, h4⟩
  · omega
  · injection hv with hv1 hv2 hv3
    subst hv1
    have hglt := (Array.getElem?_eq_some_iff.1 hg).1
    have hc : wr.cell? ⟨g, i, none⟩ = some (.string (str x)) := by
      rw [h.own.cellAt i (by omega), List.getElem?_map, hx]
      rfl
    refine ⟨g, x, rfl, hx, hlo, hglt, hc, ?_, fun w2 hb => ?_⟩
    · simp [World.frozen?, hg]
    · refine setCell_self ((hb.block g hglt).trans hg) ?_
      have hc2 := hc
      simp [World.cell?, hg] at hc2
      exact hc2
set_option maxHeartbeats 4000000 in
theorem names_ok (ta : Option Addr) (tc : Nat) (da : Option Addr) (dc : Nat) (ea : Option Addr) (ec : Nat) (ga : Option Addr) (gc : Nat) (u : UVal) (hu : HeldU u) (hs : ∀ s ∈ u.names, s.length ≤ 1100000) (w : World) (hT : Tab w) (hI : UnitIn w ta da ea ga u) (hn : RightN u 0) :
    Calls Tryz.prog 11 #[.agg (unitV ta tc da dc ea ec ga gc u)] w fun e w' => ∃ a' c', e = .returned (.slice a' (sortS u.names).length c') ∧ NmS w a' c' (sortS u.names) (sortS u.names).length w' := by
  have hB0 : Below w.heap.size w (w.alloc (.cells (unitV ta tc da dc ea ec ga gc u) 26)) := below_alloc w _
  have hI0 := hI.below hB0
  have hr := Hid.intro (unitRight_is ta tc da dc ea ec ga gc u hu _ (hT.alloc (.cells (unitV ta tc da dc ea ec ga gc u) 26)) hI0 0 hn)
  have hs9 := Hid.intro (fun w1 (hb : Below (w.alloc (.cells (unitV ta tc da dc ea ec ga gc u) 26)).heap.size (w.alloc (.cells (unitV ta tc da dc ea ec ga gc u) 26)) w1) => sortedNames_any ta tc da dc ea ec ga gc u hu w1 (hI0.below hb))
  have hBH := Hid.intro hB0
  have hx := heap_alloc_new w (.cells (unitV ta tc da dc ea ec ga gc u) 26)
  obtain ⟨c0, c1, c2, c3⟩ := four_read hx
  have hfr := Hid.intro (fun w1 (hb : Below (w.alloc (.cells (unitV ta tc da dc ea ec ga gc u) 26)).heap.size (w.alloc (.cells (unitV ta tc da dc ea ec ga gc u) 26)) w1) => four_read ((hb.block _ (blk_lt hx)).trans hx))
  have hlen := sortS_len u.names
  have hsm : Hid (∀ s ∈ sortS u.names, s.length ≤ 1100000) := fun s h => hs s ((sortS_perm _).mem_iff.1 h)
  have hmany : Hid ((sortS u.names).length ≤ 4000000) := by
    have l1 := labN_len u.text
    have l2 := labN_len u.data
    have l3 := hu.text.1
    have l4 := hu.data.1
    have l5 := hu.equs.1
    show (sortS u.names).length ≤ 4000000
    rw [hlen]
    unfold UVal.names
    rw [List.length_append, List.length_append, List.length_map]
    omega
  clear hB0 hI hI0 hT hn hu hs hx hlen
  unfold unitV at *
  generalize sortS u.names = ns at *
  generalize u.text.length = n1 at *
  generalize u.data.length = n2 at *
  generalize u.equs.length = n3 at *
  generalize u.globs.length = n4 at *
  go_enter Tryz.func11, Tryz.ntmps11
  go_wp2_with (first
    | (go_at_call 14
       (with_reducible refine (hr.out).mono ?_)
       rintro e w1 ⟨rfl, hb1⟩
       clear c0 c1 c2 c3
       obtain ⟨c0, c1, c2, c3⟩ := hfr.out w1 hb1
       have hb1H := Hid.intro (hBH.out.trans (hb1.mono hBH.out.size))
       have q := Hid.intro (hs9.out w1 hb1)
       clear hb1)
    | (go_at_call 38
       (with_reducible refine (q.out).mono ?_)
       rintro e w2 ⟨a', c', rfl, hN⟩
       have hN0 : Hid (NmS w a' c' ns ns.length w2) := ⟨hb1H.out.trans (hN.bel.mono hb1H.out.size), own_weaken hN.own hb1H.out.size⟩
       clear hN))
  all_goals first | omega | skip
  have hclone := Hid.intro (fun (x : List UInt8) (h : x ∈ ns) w1 => clone_any (str x) w1 (Nat.le_trans (hsm.out x h) (by omega)))
  clear c0 c1 c2 c3
  generalize ns.length = n0 at *
  go_loopw [4, 5, 13] (fun v4 v5 v13 wr => ∃ i : Nat, i ≤ n0 ∧ v13 = .int .i64 (i : Int) ∧ Hid (NmS w a' c' ns n0 wr)) (fun v4 v5 v13 wr => n0 - (intOf v13).toNat)
  case atStart => exact ⟨0, by omega, rfl, hN0⟩
  case round =>
    obtain ⟨i, hi, rfl, hS⟩ := hrel
    have hm4 := hmany.out
    by_cases hlt : i < n0
    · obtain ⟨g, x, hga, hx, hlo, hgl, hcell, hfz, hset⟩ := nms_at hS.out hlt
      subst hga
      have hlt2 : (i : Int) < (n0 : Int) := by omega
      have i0 : (0 : Int) ≤ (i : Int) := by omega
      have hcl := Hid.intro (hclone.out x (List.mem_of_getElem? hx) wr)
      have hsetH := Hid.intro hset
      have hglH := Hid.intro hgl
      have hfzH := Hid.intro hfz
      have hcellH := Hid.intro hcell
      clear hx hlo hset hgl hfz
      go_wp2_with (go_at_call 39; (with_reducible refine (hcl.out).mono ?_); rintro e w3 ⟨rfl, hb3⟩; have k0 := (hb3.cell (p := ⟨g, i, none⟩) hglH.out).trans hcellH.out; have k1 := (World.frozen?_of_block (a := ⟨g, i, none⟩) (hb3.block g hglH.out)).trans hfzH.out; have hw3 := hsetH.out w3 hb3; have hS3 := Hid.intro (hS.out.below hb3); clear hb3)
      all_goals first | omega | skip
      go_roundw
      case rel => exact ⟨i + 1, by omega, by go_num, hS3⟩
      case measure => simp [intOf]; omega
    · have hin : i = n0 := by omega
      subst hin
      have hlt3 : ¬ ((i : Int) < (i : Int)) := by omega
      go_wp2_with fail
      all_goals first | omega | skip
      go_ret
      have e9 : i = ns.length := hS.out.len
      rw [← e9]
      exact ⟨_, _, rfl, hS.out⟩
end Go.Proofs.YtogkchgjpflmjaaGreatDoor
namespace Go.Proofs.YtogkchgjpflmjaaGreatDoor
open Go.ChangeShapes Go.WideShapes Go.ChangeAt Go.RowKit Go.Sort
set_option linter.unusedVariables false
set_option maxRecDepth 100000
abbrev xS : ByteArray := ⟨#[115, 101, 99, 116, 105, 111, 110, 32, 100, 97, 116, 97, 10, 120, 58, 32, 119, 111, 114, 100, 32, 121, 44, 32, 51, 10, 103, 108, 111, 98, 97, 108, 32, 120, 10, 103, 108, 111, 98, 97, 108, 32, 120]⟩
theorem x_call (w : World) (hE : Env w) : Calls Tryz.prog 9 #[.string xS] w fun e w' => Below w.heap.size w w' ∧ ∃ ta tc da dc ea en ec ga gc, e = .returned (.tuple #[.agg #[.slice ta 0 tc, .slice da 3 dc, .slice ea en ec, .slice ga 1 gc], .nilIface]) ∧ StIn w' ga [[120]] ∧ ∀ w2, Env w2 → Below w'.heap.size w' w2 → Calls Tryz.prog 11 #[.agg #[.slice ta 0 tc, .slice da 3 dc, .slice ea en ec, .slice ga 1 gc]] w2 fun e w3 => ∃ a' c', e = .returned (.slice a' 1 c') ∧ Below w2.heap.size w2 w3 ∧ StIn w3 a' [[120]] := by
  obtain ⟨A, hA, ht, hd, hk, hn⟩ := x_asm
  obtain ⟨hG, hB, hU⟩ := asmF_ok hA
  have hheld := asm_held hG hB (by omega)
  have hright := (asm_right hG hB (by omega) hU).2
  have hg := glob_x hk
  refine (asb_ok hA w hE).mono fun e w' ⟨h1, ta, tc, da, dc, ea, ec, ga, gc, h2, h3⟩ => ?_
  have hgl : (uvA A).globs = [[120]] := hg
  have htl : (uvA A).text = [] := ht
  have hdl : (uvA A).data.length = 3 := hd
  have hv : unitV ta tc da dc ea ec ga gc (uvA A) = #[.slice ta 0 tc, .slice da 3 dc, .slice ea (uvA A).equs.length ec, .slice ga 1 gc] := by
    unfold unitV
    rw [htl, hdl, hgl]
    rfl
  refine ⟨h1, ta, tc, da, dc, ea, (uvA A).equs.length, ec, ga, gc, ?_, ?_, fun w2 hE2 hb2 => ?_⟩
  · rw [h2, hv]
  · have := h3.globs; rwa [hgl] at this
  · rw [← hv]
    refine (names_ok ta tc da dc ea ec ga gc (uvA A) hheld (fun s hs => by rw [hn] at hs; simp at hs; subst hs; decide) w2 hE2.tab (h3.below hb2) hright).mono ?_
    rintro e w3 ⟨a', c', rfl, hN⟩
    rw [hn, sort_one] at hN ⊢
    exact ⟨a', c', rfl, hN.bel, own_stIn hN.own⟩
theorem add_none0 (b off j : Nat) : (⟨b, off, none⟩ : Addr).add j = ⟨b, off + j, none⟩ := by
  unfold Addr.add
  split <;> simp_all
theorem stIn_new (w : World) (s : List UInt8) : StIn (w.alloc (.cells #[.string (str s)] 9)) (some ⟨w.heap.size, 0, none⟩) [s] :=
  .inr ⟨w.heap.size, 0, rfl, by simp, fun i x hi => by
    have hi0 := (List.getElem?_eq_some_iff.1 hi).1
    simp at hi0
    subst hi0
    simp at hi
    subst hi
    exact (cell_blockT (heap_alloc_new w (.cells #[.string (str s)] 9)) 0).trans rfl⟩
theorem stIn_x0 (w : World) : StIn (w.alloc (.cells #[.string ⟨#[120]⟩] 9)) (some ⟨w.heap.size, 0, none⟩) [[120]] := stIn_new w [120]
theorem stIn_x1 (w : World) (o : Obj) : StIn ((w.alloc o).alloc (.cells #[.string ⟨#[120]⟩] 9)) (some ⟨w.heap.size + 1, 0, none⟩) [[120]] := by
  have h := stIn_x0 (w.alloc o)
  rwa [show (w.alloc o).heap.size = w.heap.size + 1 from by simp] at h
def uE : UVal := ⟨[], [], [], []⟩
def uG : UVal := ⟨[], [], [], [[97]]⟩
theorem uE_in (w : World) (ta da ea ga : Option Addr) : UnitIn w ta da ea ga uE := ⟨.inl rfl, .inl rfl, .inl rfl, .inl rfl⟩
theorem uE_held : HeldU uE := ⟨⟨by decide, fun x h => by cases h⟩, ⟨by decide, fun x h => by cases h⟩, ⟨by decide, fun x h => by cases h⟩, by decide⟩
theorem uG_held : HeldU uG := ⟨⟨by decide, fun x h => by cases h⟩, ⟨by decide, fun x h => by cases h⟩, ⟨by decide, fun x h => by cases h⟩, by decide⟩
theorem uG_right : RightN uG 31 := by
  refine .inr ⟨by decide, .inr ⟨fun h => ?_, rfl⟩⟩
  have := h.globs.2 [97] (by simp [uG])
  rw [sortS_mem] at this
  simp [UVal.names, uG, labN] at this
theorem glob_none : globF asmE = [] := by
  unfold globF
  have : sortS (asmE.asked.map (·.1)) = [] := by
    apply List.eq_nil_of_length_eq_zero
    rw [sortS_len]
    rfl
  rw [this]
  rfl
theorem e_call (w : World) (hE : Env w) : Calls Tryz.prog 9 #[.string ⟨#[]⟩] w fun e w' => Below w.heap.size w w' ∧ ∃ ta tc da dc ea ec ga gc, e = .returned (.tuple #[.agg #[.slice ta 0 tc, .slice da 0 dc, .slice ea 0 ec, .slice ga 0 gc], .nilIface]) := by
  refine (asb_ok asm_none w hE).mono fun e w' ⟨h1, ta, tc, da, dc, ea, ec, ga, gc, h2, h3⟩ => ?_
  refine ⟨h1, ta, tc, da, dc, ea, ec, ga, gc, ?_⟩
  rw [h2]
  unfold unitV uvA
  rw [glob_none]
  rfl
structure LinesAt (B : Nat) (w0 : World) (g i : Nat) (wr : World) : Prop where
  bel : Below B w0 wr
  lo : B ≤ g
  blk : ∃ cur : Array Value, wr.heap[g]? = some (.cells cur 5 (0, 0)) ∧ cur.size = 4097 ∧ ∀ j, j < i → cur[j]? = some (.int .u8 10)
theorem LinesAt.set {B : Nat} {w0 : World} {g i : Nat} {wr : World} (h : LinesAt B w0 g i wr) (hB : B ≤ w0.heap.size) (hi : i < 4097) : LinesAt B w0 g (i + 1) (wr.setCell ⟨g, i, none⟩ (.int .u8 10)) := by
  obtain ⟨cur, h1, h2, h3⟩ := h.blk
  obtain ⟨r1, r2⟩ := row_set h1 i (.int .u8 10)
  refine ⟨h.bel.grown r2 (Nat.le_trans hB h.bel.size) (fun j hj => by cases hj; exact h.lo), h.lo, _, r1, by simp [h2], fun j hj => ?_⟩
  by_cases e : i = j
  · subst e
    simp [h2, hi]
  · rw [Array.getElem?_setIfInBounds_ne e]
    exact h3 j (by omega)
theorem LinesAt.cell {B : Nat} {w0 : World} {g i : Nat} {wr : World} (h : LinesAt B w0 g i wr) (hi : i < 4097) : ∃ v, wr.cell? ⟨g, i, none⟩ = some v ∧ wr.frozen? ⟨g, i, none⟩ = false := by
  obtain ⟨cur, h1, h2, h3⟩ := h.blk
  refine ⟨cur[i]'(by omega), ?_, by simp [World.frozen?, h1]⟩
  rw [cell_blockT h1 i]
  exact Array.getElem?_eq_getElem _
theorem LinesAt.below {B : Nat} {w0 : World} {g i : Nat} {wr w' : World} (h : LinesAt B w0 g i wr) (hB : B ≤ w0.heap.size) (hb : Below wr.heap.size wr w') : LinesAt B w0 g i w' := by
  obtain ⟨cur, h1, h2, h3⟩ := h.blk
  exact ⟨h.bel.trans (hb.mono (Nat.le_trans hB h.bel.size)), h.lo, cur, (hb.block g (blk_lt h1)).trans h1, h2, h3⟩
theorem LinesAt.conv {B : Nat} {w0 : World} {g : Nat} {wr : World} (h : LinesAt B w0 g 4097 wr) (n c : Nat) (hn : n ≤ 4097) : (convert 33 9 (.slice (some ⟨g, 0, none⟩) n c)).run Tryz.prog wr = .ok (.string (str (List.replicate n 10))) wr := by
  obtain ⟨cur, h1, h2, h3⟩ := h.blk
  have := run_convert_bytes_back (P := Tryz.prog) wr 33 9 5 ⟨g, 0, none⟩ c (List.replicate n 10) Tryz.underlying33 Tryz.underlying5 Tryz.underlying9 (fun j hj => by
    rw [List.length_replicate] at hj
    rw [add_none0, List.getElem_replicate]
    rw [Nat.zero_add, cell_blockT h1 j]
    exact h3 j (by omega))
  rwa [List.length_replicate] at this
theorem make_bytes (n : Nat) (hn : n ≤ 1000000) : ∃ M : Array Value, M.size = n ∧ (∀ j, j < n → M[j]? = some (.int .u8 0)) ∧ ∀ W : World, (Instr.makeSlice 33 (.int .i64 (n : Int)) (.int .i64 (n : Int))).run Tryz.prog W = .ok (.slice (some ⟨W.heap.size, 0, none⟩) n n) (W.alloc (.cells M 5)) := by
  obtain ⟨i0, hi, hz0, hz1, hz2⟩ := info_parts Tryz.info5
  obtain ⟨M, hM⟩ : ∃ M, M = madeCells (Value.int .u8 0).cells (((n : Nat) : Int).toNat * i0.size) := ⟨_, rfl⟩
  have hMs : M.size = n := by rw [hM, size_madeCells, hz1]; simp
  refine ⟨M, hMs, fun j hj => ?_, fun W => ?_⟩
  · rw [hM]
    have : j < (madeCells (Value.int .u8 0).cells (((n : Nat) : Int).toNat * i0.size)).size := by rw [← hM, hMs]; exact hj
    rw [Array.getElem?_eq_getElem this]
    simp [madeCells, Value.cells, Nat.mod_one]
  · have h := run_make (P := Tryz.prog) W 33 5 i0 (.int .u8 0) Tryz.underlying33 hi hz0 .i64 .i64 (n : Int) (n : Int) (by omega) (by omega) (by rw [hz2]; omega) (by omega)
    rw [← hM] at h
    simpa using h
set_option maxHeartbeats 8000000 in
theorem unitNumbersW (w : World) (hE : Env w) : Calls Tryz.prog 3 #[] w fun e w' => e = .returned (.bool true) ∧ Below w.heap.size w w' := by
  have hx := Hid.intro (x_call w hE)
  have he := Hid.intro e_call
  have h10 := Hid.intro (fun (a b : Option Addr) (c d : Nat) (w1 : World) (p1 : StIn w1 a [[120]]) (p2 : StIn w1 b [[120]]) => sameStr_any [[120]] (by decide) a b 1 c d w1 p1 p2 (Hid.intro rfl))
  have h12 : Hid (∀ (ta da ea ga : Option Addr) (tc dc ec gc : Nat) (W : World), Calls Tryz.prog 12 #[.agg #[.slice ta 0 tc, .slice da 0 dc, .slice ea 0 ec, .slice ga 0 gc], .agg #[.slice none 0 0, .slice none 0 0, .slice none 0 0, .slice none 0 0]] W fun e w' => e = .returned (.bool true) ∧ Below W.heap.size W w') := fun ta da ea ga tc dc ec gc W => sameUnit_any ta da ea ga none none none none tc dc ec gc 0 0 0 0 uE uE_held W (uE_in _ _ _ _ _) (uE_in _ _ _ _ _)
  have s1 : Hid (∀ W, Env W → Calls Tryz.prog 13 #[.string ⟨#[103, 108, 111, 98, 97, 108, 32, 98]⟩, .int .i64 1, .int .i64 23] W fun e w' => e = .returned (.bool true) ∧ Below W.heap.size W w') := fun W h => says_bad _ 1 23 (by omega) (by omega) (by omega) c1_asm W h
  have s2 : Hid (∀ W, Env W → Calls Tryz.prog 13 #[.string ⟨#[103, 108, 111, 98, 97, 108, 32, 98, 10, 110, 111, 112, 101]⟩, .int .i64 2, .int .i64 20] W fun e w' => e = .returned (.bool true) ∧ Below W.heap.size W w') := fun W h => says_bad _ 2 20 (by omega) (by omega) (by omega) c2_asm W h
  have s3 : Hid (∀ W, Env W → Calls Tryz.prog 13 #[.string ⟨#[114, 49, 58, 32, 110, 111, 112]⟩, .int .i64 1, .int .i64 21] W fun e w' => e = .returned (.bool true) ∧ Below W.heap.size W w') := fun W h => says_bad _ 1 21 (by omega) (by omega) (by omega) c3_asm W h
  have s4 : Hid (∀ W, Env W → Calls Tryz.prog 13 #[.string ⟨#[101, 113, 117, 32, 120, 44, 32, 120, 42, 120]⟩, .int .i64 1, .int .i64 21] W fun e w' => e = .returned (.bool true) ∧ Below W.heap.size W w') := fun W h => says_bad _ 1 21 (by omega) (by omega) (by omega) c4_asm W h
  have s5 : Hid (∀ W, Env W → Calls Tryz.prog 13 #[.string ⟨#[120, 58, 32, 101, 113, 117, 32, 120, 44, 32, 49]⟩, .int .i64 1, .int .i64 22] W fun e w' => e = .returned (.bool true) ∧ Below W.heap.size W w') := fun W h => says_bad _ 1 22 (by omega) (by omega) (by omega) c5_asm W h
  have s6 : Hid (∀ W, Env W → Calls Tryz.prog 13 #[.string (str (List.replicate 65537 0)), .int .i64 0, .int .i64 3] W fun e w' => e = .returned (.bool true) ∧ Below W.heap.size W w') := fun W h => says_bad _ 0 3 (by omega) (by omega) (by omega) asm_long W h
  have s7 : Hid (∀ W, Env W → Calls Tryz.prog 13 #[.string (str (List.replicate 4097 10)), .int .i64 4097, .int .i64 4] W fun e w' => e = .returned (.bool true) ∧ Below W.heap.size W w') := fun W h => says_bad _ 4097 4 (by omega) (by omega) (by omega) asm_lines_more W h
  have s8 : Hid (∀ W, Env W → Calls Tryz.prog 13 #[.string (str (List.replicate 4096 10)), .int .i64 0, .int .i64 0] W fun e w' => e = .returned (.bool true) ∧ Below W.heap.size W w') := fun W h => says_good _ 0 asmE asm_lines W h
  have h14 : Hid (∀ W, Env W → Calls Tryz.prog 14 #[.agg #[.slice none 0 0, .slice none 0 0, .slice none 0 0, .slice (some ⟨W.heap.size, 0, none⟩) 1 1]] (W.alloc (.cells #[.string ⟨#[97]⟩] 9)) fun e w' => e = .returned (.int .i64 31) ∧ Below W.heap.size W w') := fun W h => (unitRight_is none 0 none 0 none 0 (some ⟨W.heap.size, 0, none⟩) 1 uG uG_held _ (h.below (below_alloc W _)).tab ⟨.inl rfl, .inl rfl, .inl rfl, stIn_new W [97]⟩ 31 uG_right).mono fun e w' ⟨h1, h2⟩ => ⟨h1, (below_alloc W _).trans (h2.mono (below_alloc W (.cells #[.string ⟨#[97]⟩] 9)).size)⟩
  have h11 : Hid (∀ W, Env W → Calls Tryz.prog 11 #[.agg #[.slice none 0 0, .slice none 0 0, .slice none 0 0, .slice (some ⟨W.heap.size, 0, none⟩) 1 1]] (W.alloc (.cells #[.string ⟨#[97]⟩] 9)) fun e w' => e = .returned (.slice none 0 0) ∧ Below W.heap.size W w') := fun W h => (names_bad none 0 none 0 none 0 (some ⟨W.heap.size, 0, none⟩) 1 uG uG_held _ (h.below (below_alloc W _)).tab ⟨.inl rfl, .inl rfl, .inl rfl, stIn_new W [97]⟩ 31 uG_right (by decide)).mono fun e w' ⟨h1, h2⟩ => ⟨h1, (below_alloc W _).trans (h2.mono (below_alloc W (.cells #[.string ⟨#[97]⟩] 9)).size)⟩
  have h15 := Hid.intro known_any
  have hEH := Hid.intro hE
  obtain ⟨M, hMs, _, hM⟩ := make_bytes 4097 (by decide)
  obtain ⟨Z, hZs, hZ0, hZ⟩ := make_bytes 65537 (by decide)
  replace hM : ∀ W : World, (Instr.makeSlice 33 (.int .i64 4097) (.int .i64 4097)).run Tryz.prog W = .ok (.slice (some ⟨W.heap.size, 0, none⟩) 4097 4097) (W.alloc (.cells M 5)) := hM
  replace hZ : ∀ W : World, (Instr.makeSlice 33 (.int .i64 65537) (.int .i64 65537)).run Tryz.prog W = .ok (.slice (some ⟨W.heap.size, 0, none⟩) 65537 65537) (W.alloc (.cells Z 5)) := hZ
  have hZc : ∀ W : World, (convert 33 9 (.slice (some ⟨W.heap.size, 0, none⟩) 65537 65537)).run Tryz.prog (W.alloc (.cells Z 5)) = .ok (.string (str (List.replicate 65537 0))) (W.alloc (.cells Z 5)) := fun W => by
    have := run_convert_bytes_back (P := Tryz.prog) (W.alloc (.cells Z 5)) 33 9 5 ⟨W.heap.size, 0, none⟩ 65537 (List.replicate 65537 0) Tryz.underlying33 Tryz.underlying5 Tryz.underlying9 (fun j hj => by
      rw [List.length_replicate] at hj
      rw [add_none0, List.getElem_replicate, Nat.zero_add, cell_blockT (heap_alloc_new W (.cells Z 5)) j]
      exact hZ0 j hj)
    rwa [List.length_replicate] at this
  obtain ⟨SZ, hSZ⟩ : ∃ SZ, str (List.replicate 65537 0) = SZ := ⟨_, rfl⟩
  obtain ⟨SL, hSL⟩ : ∃ SL, str (List.replicate 4097 10) = SL := ⟨_, rfl⟩
  obtain ⟨SM, hSM⟩ : ∃ SM, str (List.replicate 4096 10) = SM := ⟨_, rfl⟩
  rw [hSZ] at hZc s6
  rw [hSL] at s7
  rw [hSM] at s8
  clear hSZ
  replace hSL := Hid.intro hSL
  replace hSM := Hid.intro hSM
  replace hMs := Hid.intro hMs
  replace hZs := Hid.intro hZs
  replace hZ0 := Hid.intro hZ0
  clear hE
  go_enter Tryz.func3, Tryz.ntmps3
  go_wp2_with (first
    | (go_at_call 9
       (with_reducible refine (hx.out).mono ?_)
       rintro e w1 ⟨hb1, ta, tc, da, dc, ea, en, ec, ga, gc, rfl, hst, hnm⟩
       have hA2 := Hid.intro (below_alloc w1 (.cells #[.slice ta 0 tc, .slice da 3 dc, .slice ea en ec, .slice ga 1 gc] 26))
       have hB2 := Hid.intro (hb1.alloc hb1.size (.cells #[.slice ta 0 tc, .slice da 3 dc, .slice ea en ec, .slice ga 1 gc] 26))
       have hbx := Hid.intro (heap_alloc_new w1 (.cells #[.slice ta 0 tc, .slice da 3 dc, .slice ea en ec, .slice ga 1 gc] 26))
       have hA3 := Hid.intro (below_alloc (w1.alloc (.cells #[.slice ta 0 tc, .slice da 3 dc, .slice ea en ec, .slice ga 1 gc] 26)) (.cells #[.string ⟨#[120]⟩] 9))
       have hs1 := Hid.intro ((hst.below hA2.out).below hA3.out)
       have hs2 := Hid.intro (stIn_x1 w1 (.cells #[.slice ta 0 tc, .slice da 3 dc, .slice ea en ec, .slice ga 1 gc] 26))
       have hnmH := Hid.intro hnm
       obtain ⟨c0, c1, c2, c3⟩ := four_read hbx.out
       clear hb1 hst hnm)
    | (go_at_call 10
       (with_reducible refine (h10.out _ _ _ _ _ hs1.out hs2.out).mono ?_)
       rintro e w4 ⟨rfl, hb4⟩
       have hA4 := Hid.intro ((hA2.out.trans (hA3.out.mono hA2.out.size)).trans (hb4.mono (Nat.le_trans hA2.out.size hA3.out.size)))
       have hbx4 := Hid.intro ((hb4.block _ (Nat.lt_of_lt_of_le (blk_lt hbx.out) hA3.out.size)).trans ((hA3.out.block _ (blk_lt hbx.out)).trans hbx.out))
       have hB4 := Hid.intro (hB2.out.trans ((hA3.out.trans (hb4.mono hA3.out.size)).mono hB2.out.size))
       have hn4 := Hid.intro (hnmH.out w4 (hEH.out.below hB4.out) hA4.out)
       clear c0 c1 c2 c3
       obtain ⟨c0, c1, c2, c3⟩ := four_read hbx4.out
       clear hb4)
    | (go_at_call 11
       (with_reducible refine (hn4.out).mono ?_)
       rintro e w5 ⟨a', c', rfl, hb5, hs5⟩
       have hA6 := Hid.intro (below_alloc w5 (.cells #[.string ⟨#[120]⟩] 9))
       have hB6 := Hid.intro ((hB4.out.trans (hb5.mono hB4.out.size)).trans (hA6.out.mono (Nat.le_trans hB4.out.size hb5.size)))
       have t1 := Hid.intro (hs5.below hA6.out)
       have t2 := Hid.intro (stIn_x0 w5)
       clear hb5 hs5 c0 c1 c2 c3)
    | (go_at_call 10
       (with_reducible refine (h10.out _ _ _ _ _ t1.out t2.out).mono ?_)
       rintro e w7 ⟨rfl, hb7⟩
       have hB7 := Hid.intro (hB6.out.trans (hb7.mono hB6.out.size))
       have he7 := Hid.intro (he.out w7 (hEH.out.below hB7.out))
       clear hb7)
    | (go_at_call 9
       (with_reducible refine (he7.out).mono ?_)
       rintro e w8 ⟨hb8, ua, uc, xa, xc, ya, yc, za, zc, rfl⟩
       have hA9 := Hid.intro (below_alloc w8 (.cells #[.slice ua 0 uc, .slice xa 0 xc, .slice ya 0 yc, .slice za 0 zc] 26))
       have hB8 := Hid.intro (hB7.out.trans (hb8.mono hB7.out.size))
       have hB9 := Hid.intro (hB8.out.trans (hA9.out.mono hB8.out.size))
       have hv9 := Hid.intro (heap_alloc_new w8 (.cells #[.slice ua 0 uc, .slice xa 0 xc, .slice ya 0 yc, .slice za 0 zc] 26))
       clear hb8))
  have hL : Hid (LinesAt (w8.alloc (.cells #[.slice ua 0 uc, .slice xa 0 xc, .slice ya 0 yc, .slice za 0 zc] 26)).heap.size (w8.alloc (.cells #[.slice ua 0 uc, .slice xa 0 xc, .slice ya 0 yc, .slice za 0 zc] 26)) (w8.heap.size + 1) 0 ((w8.alloc (.cells #[.slice ua 0 uc, .slice xa 0 xc, .slice ya 0 yc, .slice za 0 zc] 26)).alloc (.cells M 5))) := by
    refine ⟨below_alloc _ _, by simp, M, ?_, hMs.out, fun j hj => by omega⟩
    have := heap_alloc_new (w8.alloc (.cells #[.slice ua 0 uc, .slice xa 0 xc, .slice ya 0 yc, .slice za 0 zc] 26)) (.cells M 5)
    rwa [show (w8.alloc (.cells #[.slice ua 0 uc, .slice xa 0 xc, .slice ya 0 yc, .slice za 0 zc] 26)).heap.size = w8.heap.size + 1 from by simp] at this
  generalize hW9 : w8.alloc (.cells #[.slice ua 0 uc, .slice xa 0 xc, .slice ya 0 yc, .slice za 0 zc] 26) = W9 at *
  have h8s : Hid (w8.heap.size < W9.heap.size) := Hid.intro (by rw [← hW9]; simp)
  generalize W9.alloc (.cells M 5) = W10 at *
  generalize w8.heap.size = g8 at *
  clear hM hA9
  go_loopw [6] (fun v6 wr => ∃ i : Nat, i ≤ 4097 ∧ v6 = .int .i64 (i : Int) ∧ Hid (LinesAt W9.heap.size W9 (g8 + 1) i wr)) (fun v6 wr => 4097 - (intOf v6).toNat)
  case atStart => exact ⟨0, by omega, rfl, hL⟩
  case round =>
    clear hL
    obtain ⟨i, hi, rfl, hS⟩ := hrel
    by_cases hlt : i < 4097
    · have hlt2 : (i : Int) < 4097 := by omega
      have i0 : (0 : Int) ≤ (i : Int) := by omega
      have hS1 := Hid.intro (hS.out.set (Nat.le_refl _) hlt)
      obtain ⟨vo, k0, k1⟩ := hS.out.cell hlt
      go_wp2_with fail
      all_goals first | omega | skip
      go_roundw
      case rel => exact ⟨i + 1, by omega, by go_num, hS1⟩
      case measure => simp [intOf]; omega
    · have hin : i = 4097 := by omega
      subst hin
      have hlt3 : ¬ (((4097 : Nat) : Int) < 4097) := by omega
      have hB10 := Hid.intro (hB9.out.trans (hS.out.bel.mono hB9.out.size))
      have hv10 := Hid.intro ((hS.out.bel.block _ h8s.out).trans hv9.out)
      have hE10 := Hid.intro (hEH.out.below hB10.out)
      obtain ⟨c0, c1, c2, c3⟩ := four_read hv10.out
      go_wp2_with (first
        | (go_at_call 12
           (with_reducible refine (h12.out _ _ _ _ _ _ _ _ _).mono ?_)
           rintro e wn ⟨rfl, hbn⟩
           have hSc := Hid.intro (hS.out.below (Nat.le_refl _) hbn)
           have hBc := Hid.intro (hB10.out.trans (hbn.mono hB10.out.size))
           clear hbn c0 c1 c2 c3)
        | (go_at_call 13
           (with_reducible refine (s1.out _ (hEH.out.below hBc.out)).mono ?_)
           rintro e wn ⟨rfl, hbn⟩
           replace hSc := Hid.intro (hSc.out.below (Nat.le_refl _) hbn)
           replace hBc := Hid.intro (hBc.out.trans (hbn.mono hBc.out.size))
           clear hbn)
        | (go_at_call 13
           (with_reducible refine (s2.out _ (hEH.out.below hBc.out)).mono ?_)
           rintro e wn ⟨rfl, hbn⟩
           replace hSc := Hid.intro (hSc.out.below (Nat.le_refl _) hbn)
           replace hBc := Hid.intro (hBc.out.trans (hbn.mono hBc.out.size))
           clear hbn)
        | (go_at_call 13
           (with_reducible refine (s3.out _ (hEH.out.below hBc.out)).mono ?_)
           rintro e wn ⟨rfl, hbn⟩
           replace hSc := Hid.intro (hSc.out.below (Nat.le_refl _) hbn)
           replace hBc := Hid.intro (hBc.out.trans (hbn.mono hBc.out.size))
           clear hbn)
        | (go_at_call 13
           (with_reducible refine (s4.out _ (hEH.out.below hBc.out)).mono ?_)
           rintro e wn ⟨rfl, hbn⟩
           replace hSc := Hid.intro (hSc.out.below (Nat.le_refl _) hbn)
           replace hBc := Hid.intro (hBc.out.trans (hbn.mono hBc.out.size))
           clear hbn)
        | (go_at_call 13
           (with_reducible refine (s5.out _ (hEH.out.below hBc.out)).mono ?_)
           rintro e wn ⟨rfl, hbn⟩
           replace hSc := Hid.intro (hSc.out.below (Nat.le_refl _) hbn)
           replace hBc := Hid.intro (hBc.out.trans (hbn.mono hBc.out.size))
           clear hbn)
        | (go_at_call 13
           (with_reducible refine (s6.out _ (hEH.out.below (hBc.out.alloc hBc.out.size _))).mono ?_)
           rintro e wm ⟨rfl, hbm⟩
           have hbn := (below_alloc wn (.cells Z 5)).trans (hbm.mono (below_alloc wn (.cells Z 5)).size)
           replace hSc := Hid.intro (hSc.out.below (Nat.le_refl _) hbn)
           replace hBc := Hid.intro (hBc.out.trans (hbn.mono hBc.out.size))
           clear hbn hbm
           have hc1 := hSc.out.conv 4097 4097 (by omega)
           rw [hSL.out] at hc1)
        | (go_at_call 13
           (with_reducible refine (s7.out _ (hEH.out.below hBc.out)).mono ?_)
           rintro e wk ⟨rfl, hbn⟩
           clear hc1
           replace hSc := Hid.intro (hSc.out.below (Nat.le_refl _) hbn)
           replace hBc := Hid.intro (hBc.out.trans (hbn.mono hBc.out.size))
           clear hbn
           have hc2 := hSc.out.conv 4096 4097 (by omega)
           rw [hSM.out] at hc2)
        | (go_at_call 13
           (with_reducible refine (s8.out _ (hEH.out.below hBc.out)).mono ?_)
           rintro e wj ⟨rfl, hbn⟩
           clear hc2
           replace hBc := Hid.intro (hBc.out.trans (hbn.mono hBc.out.size))
           clear hbn hSc)
        | (go_at_call 14
           (with_reducible refine (h14.out _ (hEH.out.below hBc.out)).mono ?_)
           rintro e wi ⟨rfl, hbn⟩
           replace hBc := Hid.intro (hBc.out.trans (hbn.mono hBc.out.size))
           clear hbn)
        | (go_at_call 11
           (with_reducible refine (h11.out _ (hEH.out.below hBc.out)).mono ?_)
           rintro e wh ⟨rfl, hbn⟩
           replace hBc := Hid.intro (hBc.out.trans (hbn.mono hBc.out.size))
           clear hbn)
        | (go_at_call 15
           (with_reducible refine (h15.out _ (hEH.out.below hBc.out)).mono ?_)
           rintro e wf ⟨rfl, hbn⟩
           replace hBc := Hid.intro (hBc.out.trans (hbn.mono hBc.out.size))
           clear hbn))
      all_goals first | omega | skip
      go_ret
      exact ⟨rfl, hBc.out⟩
end Go.Proofs.YtogkchgjpflmjaaGreatDoor
namespace Go.Proofs.YtogkchgjpflmjaaGreatDoor
open Go.ChangeShapes Go.WideShapes Go.ChangeAt Go.RowKit
set_option linter.unusedVariables false
set_option maxRecDepth 100000
def thenB (ops : Array Oper) (n : Nat) : Bool :=
  let z := Array.replicate ops.size false
  let z0 := z.setIfInBounds 0 true
  let z1 := z.setIfInBounds 1 true
  let z2 := z0.setIfInBounds 1 true
  Region.noSelect ops && decide (Region.ready .any ops z = [0, 1]) && decide (Region.ready .any ops z0 = [1]) && decide (Region.ready .any ops z1 = [0]) && decide (Region.ready .any ops z2 = [2]) && Region.lexFrom .any ops n 3 (z2.setIfInBounds 2 true)
theorem wp_region_then {P : Program} {id : Nat} {Q : Exit → Act → World → Prop} {a : Act} {w : World} {o0 o1 o2 : Oper} {r : List Oper} (hm : P.follows .mixedOrders = true)
    (hB : thenB (o0 :: o1 :: o2 :: r).toArray r.length = true) (hap : o0.apart (o0 :: o1 :: o2 :: r).toArray o1 = true) (hg : o2.guard = none)
    (h : wpQuiet P (o0 :: o1 :: o2 :: r).toArray (fun w' => ∃ p : BelowOf w, w' = p.wd) (fun a' => ∀ w1, (∃ p : BelowOf w, w1 = p.wd) → ∀ K : Act → World → Prop, (∀ a2 w2, wpQuiet P (o0 :: o1 :: o2 :: r).toArray (fun w' => ∃ p : BelowOf w2, w' = p.wd) (fun a3 => ∀ w3, (∃ p : BelowOf w2, w3 = p.wd) → Q .normal a3 w3) r a2 → K a2 w2) → o2.wp P a' w1 K Q) [o0, o1] a) :
    (Code.region id (o0 :: o1 :: o2 :: r).toArray true).wp P Q a w := by
  generalize hops : (o0 :: o1 :: o2 :: r).toArray = ops at *
  have e0 : ops[0]? = some o0 := by rw [← hops]; rfl
  have e1 : ops[1]? = some o1 := by rw [← hops]; rfl
  have e2 : ops[2]? = some o2 := by rw [← hops]; rfl
  have er : ∀ j, r[j]? = ops[3 + j]? := fun j => by
    rw [← hops, List.getElem?_toArray, show 3 + j = j + 1 + 1 + 1 by omega, List.getElem?_cons_succ, List.getElem?_cons_succ, List.getElem?_cons_succ]
  have hsz : ops.size = r.length + 1 + 1 + 1 := by rw [← hops]; rfl
  simp only [thenB, Bool.and_eq_true, decide_eq_true_eq] at hB
  obtain ⟨⟨⟨⟨⟨hsel, r0⟩, r1⟩, r2⟩, r3⟩, hlex⟩ := hB
  have hns := Region.noSelect_spec hsel
  refine wp_region_any hm ?_
  rw [hsz]
  rw [← hsz]
  generalize Array.replicate ops.size false = z at *
  -- the call and what stands behind it
  have hrest : ∀ (a' : Act) (w1 : World), (∀ K : Act → World → Prop, (∀ a2 w2, wpQuiet P ops (fun w' => ∃ p : BelowOf w2, w' = p.wd) (fun a3 => ∀ w3, (∃ p : BelowOf w2, w3 = p.wd) → Q .normal a3 w3) r a2 → K a2 w2) → o2.wp P a' w1 K Q) → wpAny P .any ops Q (r.length + 1) ((z.setIfInBounds 0 true).setIfInBounds 1 true) a' w1 := fun a' w1 hh => by
    refine ⟨fun h0 => (by rw [r3] at h0; cases h0), fun i hi => ?_⟩
    rw [r3, List.mem_singleton] at hi
    subst hi
    unfold wpOp
    simp only [e2]
    have hwant : Region.wanted o2 (yielded ops a'.tmps) = true := by unfold Region.wanted; rw [hg]
    rw [if_pos hwant]
    refine .inl (hh _ fun a2 w2 hq => ?_)
    exact wpAny_of_quiet (C := fun w' => ∃ p : BelowOf w2, w' = p.wd) (Q := fun a3 => ∀ w3, (∃ p : BelowOf w2, w3 = p.wd) → Q .normal a3 w3) (fun _ w' hw' hk => hk w' hw') _ _ _ _ ⟨⟨w2, Below.refl _ _⟩, rfl⟩ (wpAnyQ_lex hsel r 3 _ _ er hlex hq)
  have hC0 : (fun w' => ∃ p : BelowOf w, w' = p.wd) { w with drawn := w.drawn + 1 } := ⟨⟨w.drew, (Below.refl _ _).drew⟩, rfl⟩
  obtain ⟨Q0, hQ0, h⟩ : ∃ Q0 : Act → Prop, (∀ a', Q0 a' → ∀ w1, (∃ p : BelowOf w, w1 = p.wd) → ∀ K : Act → World → Prop, (∀ a2 w2, wpQuiet P ops (fun w' => ∃ p : BelowOf w2, w' = p.wd) (fun a3 => ∀ w3, (∃ p : BelowOf w2, w3 = p.wd) → Q .normal a3 w3) r a2 → K a2 w2) → o2.wp P a' w1 K Q) ∧ wpQuiet P ops (fun w' => ∃ p : BelowOf w, w' = p.wd) Q0 [o0, o1] a := ⟨_, fun _ h => h, h⟩
  have hst : qOp P ops (fun w' => ∃ p : BelowOf w, w' = p.wd) 0 (wpQuiet P ops (fun w' => ∃ p : BelowOf w, w' = p.wd) Q0 [o1]) a := by unfold qOp; simp only [e0]; exact h
  obtain ⟨v0, y0, k0⟩ := yieldsIn_of_qOp e0 hst
  have hst1 : qOp P ops (fun w' => ∃ p : BelowOf w, w' = p.wd) 1 (wpQuiet P ops (fun w' => ∃ p : BelowOf w, w' = p.wd) Q0 []) (a.put o0.dst v0) := by unfold qOp; simp only [e1]; exact k0
  rw [hsz]
  refine ⟨fun h0 => (by rw [r0] at h0; cases h0), fun i hi => ?_⟩
  rw [r0] at hi
  rcases List.mem_cons.1 hi with rfl | hi
  · refine wpOp_of_qOp (C := fun w' => ∃ p : BelowOf w, w' = p.wd) hC0 (K := fun a' => a' = a.put o0.dst v0) (fun a' w' hw' ha => ?_) (y0.qOp e0 rfl)
    subst ha
    refine ⟨fun h0 => (by rw [r1] at h0; cases h0), fun i hi => ?_⟩
    rw [r1, List.mem_singleton] at hi
    subst hi
    exact wpOp_of_qOp (C := fun w' => ∃ p : BelowOf w, w' = p.wd) hw' (fun a' w1 hw1 hq => hrest a' w1 (hQ0 a' hq w1 hw1)) hst1
  · rw [List.mem_singleton] at hi
    subst hi
    have h2 := qOp_put e1 hap (fun cs b => hns 0 o0 cs b e0) (fun cs b => hns 1 o1 cs b e1) y0 hst1
    refine wpOp_of_qOp (C := fun w' => ∃ p : BelowOf w, w' = p.wd) hC0 (fun a' w' hw' ha => ?_) h2
    refine ⟨fun h0 => (by rw [r2] at h0; cases h0), fun i hi => ?_⟩
    rw [r2, List.mem_singleton] at hi
    subst hi
    rw [Array.setIfInBounds_comm _ _ (by decide)]
    exact wpOp_of_qOp (C := fun w' => ∃ p : BelowOf w, w' = p.wd) hw' (fun a' w1 hw1 hq => hrest a' w1 (hQ0 a' hq w1 hw1)) (ha.1.qOp e0 ha.2)
end Go.Proofs.YtogkchgjpflmjaaGreatDoor
