/- spandrelkeep's Large answers. -/
import Derived.Test.YtmndccbeddaphaaGreatDoorSme
import Derived.Test.YtmndccbeddaphaaGreatDoorOwr2
import Derived.Test.YtmndccbeddaphaaGreatDoorOrd5
import Derived.Test.YtmndccbeddaphaaGreatDoorObn1
import Derived.BigQuiet
/- spandrelkeep's SameUnit of any two; spandrelbook's Same of any two lists of bytes; Within. -/
namespace Go.Proofs.YtmndccbeddaphaaGreatDoor
open Go.ChangeShapes Go.WideShapes Go.ChangeAt Go.RowKit Go.Sort
set_option linter.unusedVariables false
set_option linter.unusedSimpArgs false
set_option maxRecDepth 100000

theorem unit_eq {u v : UVal} : (sqB u.text v.text && (sqB u.data v.data && (sqB u.equs v.equs && sqB u.globs v.globs))) = sqB u v := by
  by_cases h : u = v
  · subst h
    rw [sqB_pos rfl, sqB_pos rfl, sqB_pos rfl, sqB_pos rfl, sqB_pos rfl]
    rfl
  · rw [sqB_neg h]
    by_cases h1 : u.text = v.text
    · by_cases h2 : u.data = v.data
      · by_cases h3 : u.equs = v.equs
        · by_cases h4 : u.globs = v.globs
          · exact absurd (by cases u; cases v; simp_all) h
          · rw [sqB_neg h4]; simp
        · rw [sqB_neg h3]; simp
      · rw [sqB_neg h2]; simp
    · rw [sqB_neg h1]; simp
set_option maxHeartbeats 4000000 in
theorem sameUnit_is (ta da ea ga tb db eb gb : Option Addr) (tc dc ec gc tk dk ek gk : Nat) (u v : UVal) (hu : HeldU u) (hv : HeldU v) (w : World) (hI : UnitIn w ta da ea ga u) (hJ : UnitIn w tb db eb gb v) :
    Calls Tryz.prog 18 #[.agg (unitV ta tc da dc ea ec ga gc u), .agg (unitV tb tk db dk eb ek gb gk v)] w fun e w' => e = .returned (.bool (sqB u v)) ∧ Below w.heap.size w w' := by
  have hB2 : Below w.heap.size w ((w.alloc (.cells (unitV ta tc da dc ea ec ga gc u) 30)).alloc (.cells (unitV tb tk db dk eb ek gb gk v) 30)) := (below_alloc w _).alloc (by simp) _
  have hrows := two_rows' w (unitV ta tc da dc ea ec ga gc u) (unitV tb tk db dk eb ek gb gk v) 30 30
  have hI2 := Hid.intro (hI.below hB2)
  have hJ2 := Hid.intro (hJ.below hB2)
  have b1 := Hid.intro hrows.1
  have b2 := Hid.intro hrows.2
  have hBH := Hid.intro hB2
  have q1 := Hid.intro (fun (w1 : World) (p1 : ItIn w1 ta u.text) (p2 : ItIn w1 tb v.text) => sameItems_is u.text v.text hu.text.1 hv.text.1 (fun x hx => (hu.text.2 x hx).few) (fun x hx => (hv.text.2 x hx).few) ta tb tc tk w1 p1 p2)
  have q2 := Hid.intro (fun (w1 : World) (p1 : ItIn w1 da u.data) (p2 : ItIn w1 db v.data) => sameItems_is u.data v.data hu.data.1 hv.data.1 (fun x hx => (hu.data.2 x hx).few) (fun x hx => (hv.data.2 x hx).few) da db dc dk w1 p1 p2)
  have q3 := Hid.intro (fun (w1 : World) (p1 : EqIn w1 ea u.equs) (p2 : EqIn w1 eb v.equs) => sameEqus_is u.equs v.equs hu.equs.1 hv.equs.1 (fun x hx => (hu.equs.2 x hx).few) (fun x hx => (hv.equs.2 x hx).few) ea eb ec ek w1 p1 p2)
  have q4 := Hid.intro (fun (w1 : World) (p1 : StIn w1 ga u.globs) (p2 : StIn w1 gb v.globs) => sameStr_is u.globs v.globs hu.globs hv.globs ga gb gc gk w1 p1 p2)
  rw [← unit_eq]
  clear hrows hB2 hI hJ hu hv
  unfold unitV at *
  generalize sqB u.text v.text = B1 at *
  generalize sqB u.data v.data = B2 at *
  generalize sqB u.equs v.equs = B3 at *
  generalize sqB u.globs v.globs = B4 at *
  generalize u.text.length = n1 at *
  generalize u.data.length = n2 at *
  generalize u.equs.length = n3 at *
  generalize u.globs.length = n4 at *
  generalize v.text.length = m1 at *
  generalize v.data.length = m2 at *
  generalize v.equs.length = m3 at *
  generalize v.globs.length = m4 at *
  have hall := Hid.intro (fun (w1 : World) (hb : Below ((w.alloc (.cells (unit4 (.slice ta n1 tc) (.slice da n2 dc) (.slice ea n3 ec) (.slice ga n4 gc)) 30)).alloc (.cells (unit4 (.slice tb m1 tk) (.slice db m2 dk) (.slice eb m3 ek) (.slice gb m4 gk)) 30)).heap.size ((w.alloc (.cells (unit4 (.slice ta n1 tc) (.slice da n2 dc) (.slice ea n3 ec) (.slice ga n4 gc)) 30)).alloc (.cells (unit4 (.slice tb m1 tk) (.slice db m2 dk) (.slice eb m3 ek) (.slice gb m4 gk)) 30)) w1) => And.intro (four_read ((hb.block _ (blk_lt b1.out)).trans b1.out)) (four_read ((hb.block _ (blk_lt b2.out)).trans b2.out)))
  cases B1
  · go_enter Tryz.func18, Tryz.ntmps18
    go_wp2_with (first
      | (go_at_call 47; (with_reducible refine (q1.out _ hI2.out.text hJ2.out.text).mono ?_); rintro e w1 ⟨rfl, hb1⟩; obtain ⟨⟨x0, x1, x2, x3⟩, y0, y1, y2, y3⟩ := hall.out w1 hb1; have hbH1 := Hid.intro hb1; have r2 := Hid.intro (q2.out w1 (hI2.out.below hb1).data (hJ2.out.below hb1).data); clear hb1 q1))
    all_goals first | omega | skip
    go_ret
    exact ⟨rfl, hBH.out.trans (hbH1.out.mono hBH.out.size)⟩
  cases B2
  · go_enter Tryz.func18, Tryz.ntmps18
    go_wp2_with (first
      | (go_at_call 47; (with_reducible refine (q1.out _ hI2.out.text hJ2.out.text).mono ?_); rintro e w1 ⟨rfl, hb1⟩; obtain ⟨⟨x0, x1, x2, x3⟩, y0, y1, y2, y3⟩ := hall.out w1 hb1; have hbH1 := Hid.intro hb1; have r2 := Hid.intro (q2.out w1 (hI2.out.below hb1).data (hJ2.out.below hb1).data); clear hb1 q1)
      | (go_at_call 47; (with_reducible refine (r2.out).mono ?_); rintro e w2 ⟨rfl, hb2⟩; have hbH2 := Hid.intro (hbH1.out.trans (hb2.mono hbH1.out.size)); clear x0 x1 x2 x3 y0 y1 y2 y3; obtain ⟨⟨x0, x1, x2, x3⟩, y0, y1, y2, y3⟩ := hall.out w2 hbH2.out; have r3 := Hid.intro (q3.out w2 (hI2.out.below hbH2.out).equs (hJ2.out.below hbH2.out).equs); clear hb2 r2))
    all_goals first | omega | skip
    go_ret
    exact ⟨rfl, hBH.out.trans (hbH2.out.mono hBH.out.size)⟩
  cases B3
  · go_enter Tryz.func18, Tryz.ntmps18
    go_wp2_with (first
      | (go_at_call 47; (with_reducible refine (q1.out _ hI2.out.text hJ2.out.text).mono ?_); rintro e w1 ⟨rfl, hb1⟩; obtain ⟨⟨x0, x1, x2, x3⟩, y0, y1, y2, y3⟩ := hall.out w1 hb1; have hbH1 := Hid.intro hb1; have r2 := Hid.intro (q2.out w1 (hI2.out.below hb1).data (hJ2.out.below hb1).data); clear hb1 q1)
      | (go_at_call 47; (with_reducible refine (r2.out).mono ?_); rintro e w2 ⟨rfl, hb2⟩; have hbH2 := Hid.intro (hbH1.out.trans (hb2.mono hbH1.out.size)); clear x0 x1 x2 x3 y0 y1 y2 y3; obtain ⟨⟨x0, x1, x2, x3⟩, y0, y1, y2, y3⟩ := hall.out w2 hbH2.out; have r3 := Hid.intro (q3.out w2 (hI2.out.below hbH2.out).equs (hJ2.out.below hbH2.out).equs); clear hb2 r2)
      | (go_at_call 48; (with_reducible refine (r3.out).mono ?_); rintro e w3 ⟨rfl, hb3⟩; have hbH3 := Hid.intro (hbH2.out.trans (hb3.mono hbH2.out.size)); clear x0 x1 x2 x3 y0 y1 y2 y3; obtain ⟨⟨x0, x1, x2, x3⟩, y0, y1, y2, y3⟩ := hall.out w3 hbH3.out; have r4 := Hid.intro (q4.out w3 (hI2.out.below hbH3.out).globs (hJ2.out.below hbH3.out).globs); clear hb3 r3))
    all_goals first | omega | skip
    go_ret
    exact ⟨rfl, hBH.out.trans (hbH3.out.mono hBH.out.size)⟩
  · go_enter Tryz.func18, Tryz.ntmps18
    go_wp2_with (first
      | (go_at_call 47; (with_reducible refine (q1.out _ hI2.out.text hJ2.out.text).mono ?_); rintro e w1 ⟨rfl, hb1⟩; obtain ⟨⟨x0, x1, x2, x3⟩, y0, y1, y2, y3⟩ := hall.out w1 hb1; have hbH1 := Hid.intro hb1; have r2 := Hid.intro (q2.out w1 (hI2.out.below hb1).data (hJ2.out.below hb1).data); clear hb1 q1)
      | (go_at_call 47; (with_reducible refine (r2.out).mono ?_); rintro e w2 ⟨rfl, hb2⟩; have hbH2 := Hid.intro (hbH1.out.trans (hb2.mono hbH1.out.size)); clear x0 x1 x2 x3 y0 y1 y2 y3; obtain ⟨⟨x0, x1, x2, x3⟩, y0, y1, y2, y3⟩ := hall.out w2 hbH2.out; have r3 := Hid.intro (q3.out w2 (hI2.out.below hbH2.out).equs (hJ2.out.below hbH2.out).equs); clear hb2 r2)
      | (go_at_call 48; (with_reducible refine (r3.out).mono ?_); rintro e w3 ⟨rfl, hb3⟩; have hbH3 := Hid.intro (hbH2.out.trans (hb3.mono hbH2.out.size)); clear x0 x1 x2 x3 y0 y1 y2 y3; obtain ⟨⟨x0, x1, x2, x3⟩, y0, y1, y2, y3⟩ := hall.out w3 hbH3.out; have r4 := Hid.intro (q4.out w3 (hI2.out.below hbH3.out).globs (hJ2.out.below hbH3.out).globs); clear hb3 r3)
      | (go_at_call 49; (with_reducible refine (r4.out).mono ?_); rintro e w4 ⟨rfl, hb4⟩; have hbH4 := Hid.intro (hbH3.out.trans (hb4.mono hbH3.out.size)); clear hb4 r4))
    all_goals first | omega | skip
    go_ret
    exact ⟨by simp, hBH.out.trans (hbH4.out.mono hBH.out.size)⟩

namespace O
theorem lies_takeO {w : World} {a : Option Addr} {zs : List Int} (h : Lies w a zs) (k : Nat) : Lies w a (zs.take k) := by
  refine ⟨areBytes_take _ h.1 _, ?_⟩
  rcases h.2 with rfl | ⟨b, off, ha, hc⟩
  · exact .inl (by simp)
  · refine .inr ⟨b, off, ha, fun i hi => ?_⟩
    rw [List.length_take] at hi
    rw [hc i (by omega)]
    simp [List.getElem?_take_of_lt (show i < k by omega)]
end O
theorem lies_at {w : World} {a : Option Addr} {zs : List Int} (h : O.Lies w a zs) {i : Nat} {x : Int} (hx : zs[i]? = some x) : ∃ g o, a = some ⟨g, o, none⟩ ∧ g < w.heap.size ∧ w.cell? ⟨g, o + i, none⟩ = some (.int .u8 x) := by
  rcases h.2 with rfl | ⟨g, o, ha, hc⟩
  · cases hx
  · have hi := (List.getElem?_eq_some_iff.1 hx).1
    have h1 := hc i hi
    rw [List.getD_eq_getElem?_getD, hx, Option.getD_some] at h1
    exact ⟨g, o, ha, cell_lt h1, h1⟩

set_option maxHeartbeats 4000000 in
theorem sameBytes_is (l m : List Int) (hm : l.length ≤ 1100000) (hm' : m.length ≤ 1100000) (ai bi : Option Addr) (ci di : Nat) (w : World) (h1 : O.Lies w ai l) (h2 : O.Lies w bi m) :
    Calls Tryz.prog 15 #[.slice ai l.length ci, .slice bi m.length di] w fun e w' => e = .returned (.bool (sqB l m)) ∧ Below w.heap.size w w' := by
  by_cases hlen : l.length = m.length
  rotate_left
  · rw [sqB_neg (fun e => hlen (by rw [e]))]
    obtain ⟨n0, hn0⟩ : ∃ n0, n0 = l.length := ⟨_, rfl⟩
    obtain ⟨n1, hn1⟩ : ∃ n1, n1 = m.length := ⟨_, rfl⟩
    rw [← hn0, ← hn1] at hlen ⊢
    have hne : ((n0 : Int) == (n1 : Int)) = false := int_ne (by omega)
    have hne2 : ¬ (n0 = n1) := hlen
    clear hn0 hn1 h1 h2
    go_enter Tryz.func15, Tryz.ntmps15
    go_wp2
    all_goals first | omega | skip
    go_ret
    exact ⟨rfl, Below.refl _ _⟩
  · obtain ⟨ni, hn⟩ : ∃ ni, ni = l.length := ⟨_, rfl⟩
    rw [← hlen, ← hn]
    have hnm : ni ≤ 1100000 := by omega
    rw [← hn] at hlen
    replace hn := Hid.intro hn
    replace hlen := Hid.intro hlen
    have hyes : Hid (l.take ni = m.take ni → sqB l m = true) := fun h => sqB_pos (by rwa [List.take_of_length_le (by rw [hn.out]; exact Nat.le_refl _), List.take_of_length_le (by rw [hlen.out]; exact Nat.le_refl _)] at h)
    have hno : Hid (∀ i x y, l[i]? = some x → m[i]? = some y → x ≠ y → sqB l m = false) := fun i x y hx hy hne => sqB_neg (ne_at hx hy hne)
    generalize sqB l m = AA at *
    clear hm hm'
    replace h1 := Hid.intro h1
    replace h2 := Hid.intro h2
    go_enter Tryz.func15, Tryz.ntmps15
    go_wp2
    all_goals first | omega | skip
    go_loopw [5] (fun v5 wr => ∃ i : Nat, i ≤ ni ∧ v5 = .int .i64 (i : Int) ∧ Hid (Below w.heap.size w wr) ∧ Hid (l.take i = m.take i)) (fun v5 wr => ni - (intOf v5).toNat)
    case atStart => exact ⟨0, by omega, rfl, Hid.intro (Below.refl _ _), rfl⟩
    case round =>
      obtain ⟨i, hi, rfl, hB, hT⟩ := hrel
      by_cases hlt : i < ni
      · obtain ⟨x, hx⟩ : ∃ x, l[i]? = some x := ⟨l[i]'(by rw [← hn.out]; exact hlt), List.getElem?_eq_getElem _⟩
        obtain ⟨y, hy⟩ : ∃ y, m[i]? = some y := ⟨m[i]'(by rw [← hlen.out]; exact hlt), List.getElem?_eq_getElem _⟩
        have hP : Hid (∀ p : BelowOf wr, Below w.heap.size w p.wd) := fun p => hB.out.trans (p.h.mono hB.out.size)
        obtain ⟨g, o, hg, hgl, hI⟩ := lies_at h1.out hx
        obtain ⟨g', o', hg', hgl', hJ⟩ := lies_at h2.out hy
        subst hg
        subst hg'
        have c0 : ∀ p : BelowOf wr, p.wd.cell? ⟨g, o + i, none⟩ = some (.int .u8 x) := fun p => ((hP.out p).cell (p := ⟨g, _, none⟩) hgl).trans hI
        have d0 : ∀ p : BelowOf wr, p.wd.cell? ⟨g', o' + i, none⟩ = some (.int .u8 y) := fun p => ((hP.out p).cell (p := ⟨g', _, none⟩) hgl').trans hJ
        have hxH := Hid.intro hx
        have hyH := Hid.intro hy
        have hlt2 : (i : Int) < (ni : Int) := by omega
        have i0 : (0 : Int) ≤ (i : Int) := by omega
        clear hI hJ hx hy hgl hgl'
        by_cases hxy : x = y
        rotate_left
        · have hf := int_ne hxy
          go_wp2_with fail
          all_goals first | omega | skip
          refine wp_region_quiet_below (by kernel_rfl) (by kernel_rfl) ?_
          repeat (first | (with_reducible refine wpQuiet_skip (by with_unfolding_all rfl) ?_; simp only [Act.put, List.setIfInBounds_toArray, List.set_cons_zero, List.set_cons_succ]) | (with_reducible refine wpQuiet_step (fun K hK => ?_); go_simp; first | (with_reducible refine hK _ ?_; clear hK K) | (apply Exists.intro; refine ⟨fun p => ?_, hK _ ?_⟩; fail; clear hK K)))
          with_reducible refine wpQuiet_nil ?_
          intro _ hw'
          obtain ⟨pq, hw''⟩ := hw'
          subst hw''
          clear c0 d0
          have hend := Hid.intro (hP.out pq)
          have hA := Hid.intro (hno.out i x y hxH.out hyH.out hxy)
          go_wp2_with fail
          all_goals first | omega | skip
          go_ret
          exact ⟨by rw [hA.out]; rfl, hend.out⟩
        · have hc0 : ∀ p : BelowOf wr, p.wd.cell? ⟨g', o' + i, none⟩ = some (.int .u8 x) := by rw [hxy]; exact d0
          clear d0
          go_wp2_with fail
          all_goals first | omega | skip
          refine wp_region_quiet_below (by kernel_rfl) (by kernel_rfl) ?_
          repeat (first | (with_reducible refine wpQuiet_skip (by with_unfolding_all rfl) ?_; simp only [Act.put, List.setIfInBounds_toArray, List.set_cons_zero, List.set_cons_succ]) | (with_reducible refine wpQuiet_step (fun K hK => ?_); go_simp; first | (with_reducible refine hK _ ?_; clear hK K) | (apply Exists.intro; refine ⟨fun p => ?_, hK _ ?_⟩; fail; clear hK K)))
          with_reducible refine wpQuiet_nil ?_
          intro _ hw'
          obtain ⟨pq, hw''⟩ := hw'
          subst hw''
          clear c0 hc0
          have hend := Hid.intro (hP.out pq)
          have hTT := Hid.intro (take_eq hT.out hxH.out (by rw [hxy]; exact hyH.out))
          go_wp2_with fail
          all_goals first | omega | skip
          go_roundw
          case rel => exact ⟨i + 1, by omega, by go_num, hend, hTT⟩
          case measure => simp [intOf]; omega
      · have hin : i = ni := by omega
        subst hin
        have hlt3 : ¬ ((i : Int) < (i : Int)) := by omega
        have hA := Hid.intro (hyes.out hT.out)
        go_wp2
        all_goals first | omega | skip
        go_ret
        exact ⟨by rw [hA.out]; rfl, hB.out⟩

/-- Within answers a number of the bounds -/
theorem within_is (a : Int) (ha : -9223372036854775808 ≤ a ∧ a ≤ 9223372036854775807) (n : Nat) (hn : n ≤ 1048576) (w : World) : Calls Tryz.prog 20 #[.int .i64 a, .int .i64 0, .int .i64 (n : Int)] w fun e w' => ∃ q : Nat, q ≤ n ∧ e = .returned (.int .i64 (q : Int)) ∧ w' = w := by
  have hp : (0 : Int) < (n : Int) + 1 := by omega
  have h0 : ¬ ((n : Int) + 1 = 0) := by omega
  have hm := Int.tmod_lt_of_pos a hp
  have hl : -((n : Int) + 1) < a.tmod ((n : Int) + 1) := by
    have := Int.natAbs_tmod a ((n : Int) + 1)
    have h2 : (a.natAbs % ((n : Int) + 1).natAbs) < ((n : Int) + 1).natAbs := Nat.mod_lt _ (by omega)
    omega
  have hw : IntKind.i64.wrap (a.tmod ((n : Int) + 1)) = a.tmod ((n : Int) + 1) := by rw [IntKind.wrap_i64]; omega
  obtain ⟨r, hr⟩ : ∃ r, a.tmod ((n : Int) + 1) = r := ⟨_, rfl⟩
  rw [hr] at hm hl hw
  by_cases hneg : r < 0
  · have hd : decide (r < 0) = true := by simpa using hneg
    go_enter Tryz.func20, Tryz.ntmps20
    go_wp2
    all_goals first | omega | skip
    go_ret
    have e : (((r + n + 1).toNat : Nat) : Int) = r + n + 1 := by omega
    exact ⟨(r + n + 1).toNat, by omega, by rw [e]; rfl, rfl⟩
  · have hd : decide (r < 0) = false := by simpa using hneg
    go_enter Tryz.func20, Tryz.ntmps20
    go_wp2
    all_goals first | omega | skip
    go_ret
    have e : ((r.toNat : Nat) : Int) = r := by omega
    exact ⟨r.toNat, by omega, by rw [e]; rfl, rfl⟩
end Go.Proofs.YtmndccbeddaphaaGreatDoor
namespace Go.Proofs.YtmndccbeddaphaaGreatDoor
open Go.ChangeShapes Go.WideShapes Go.ChangeAt Go.RowKit
set_option linter.unusedVariables false
set_option linter.unusedSimpArgs false
set_option maxRecDepth 100000

/-- some bool is answered -/
def BoolOut (r : Ending) : Prop := ∃ bv, r = .returned (.bool bv)
theorem boolOut (bv : Bool) : BoolOut (.returned (.bool bv)) := ⟨bv, rfl⟩
/-- n units lie at block g -/
structure UsAt (w : World) (g n : Nat) : Prop where
  lt : g < w.heap.size
  each : ∀ i, i < n → ∃ ta t tc da d dc ea e ec, w.cell? ⟨g, i * 4, none⟩ = some (.slice ta t tc) ∧ w.cell? ⟨g, i * 4 + 1, none⟩ = some (.slice da d dc) ∧ w.cell? ⟨g, i * 4 + 2, none⟩ = some (.slice ea e ec) ∧ t ≤ 1100000 ∧ d ≤ 1100000 ∧ e ≤ 1100000

set_option maxHeartbeats 8000000 in
theorem large_is (g n : Nat) (hn : n ≤ 60) (w : World) (hx : UsAt w g n) :
    Calls Tryz.prog 13 #[.slice (some ⟨g, 0, none⟩) n n] w fun r w' => BoolOut r ∧ Below w.heap.size w w' := by
  replace hx := Hid.intro hx
  go_enter Tryz.func13, Tryz.ntmps13
  go_wp2
  all_goals first | omega | skip
  go_loopw [3, 4] (fun v3 v4 wr => ∃ (i m : Nat), v3 = .int .i64 (m : Int) ∧ v4 = .int .i64 (i : Int) ∧ i ≤ n ∧ m ≤ 3300000 * i ∧ Hid (Below w.heap.size w wr)) (fun v3 v4 wr => n - (intOf v4).toNat)
  case atStart => exact ⟨0, 0, rfl, rfl, by omega, by omega, Below.refl _ _⟩
  case round =>
    obtain ⟨i, m, rfl, rfl, hi, hm, hB⟩ := hrel
    by_cases hin : i < n
    · have q0 : decide ((i : Int) < (n : Int)) = true := by simp; omega
      have q1 : decide ((i : Int) < 65) = true := by simp; omega
      obtain ⟨ta, t, tc, da, d, dc, ea, e, ec, d0, d1, d2, ht, hd, he⟩ := hx.out.each i hin
      have c0 := (hB.out.cell (p := ⟨g, i * 4, none⟩) hx.out.lt).trans d0
      have c1 := (hB.out.cell (p := ⟨g, i * 4 + 1, none⟩) hx.out.lt).trans d1
      have c2 := (hB.out.cell (p := ⟨g, i * 4 + 2, none⟩) hx.out.lt).trans d2
      clear d0 d1 d2
      by_cases a1 : 600 < t
      · have b1 : decide (600 < t) = true := by simpa using a1
        have b2 : (600 : Int) < (t : Int) := by omega
        go_wp2
        all_goals first | omega | skip
        go_ret
        exact ⟨boolOut _, hB.out⟩
      · have b1 : decide (600 < t) = false := by simpa using a1
        have b2 : ¬ (600 : Int) < (t : Int) := by omega
        by_cases a2 : 300 < d
        · have b3 : decide (300 < d) = true := by simpa using a2
          have b4 : (300 : Int) < (d : Int) := by omega
          go_wp2
          all_goals first | omega | skip
          go_ret
          exact ⟨boolOut _, hB.out⟩
        · have b3 : decide (300 < d) = false := by simpa using a2
          have b4 : ¬ (300 : Int) < (d : Int) := by omega
          by_cases a3 : 100 < e
          · have b5 : decide (100 < e) = true := by simpa using a3
            have b6 : (100 : Int) < (e : Int) := by omega
            go_wp2
            all_goals first | omega | skip
            go_ret
            exact ⟨boolOut _, hB.out⟩
          · have b5 : decide (100 < e) = false := by simpa using a3
            have b6 : ¬ (100 : Int) < (e : Int) := by omega
            have w1 : IntKind.i64.wrap ((m : Int) + (t : Int)) = ((m + t : Nat) : Int) := by rw [IntKind.wrap_i64]; omega
            have w2 : IntKind.i64.wrap (((m + t : Nat) : Int) + (d : Int)) = ((m + t + d : Nat) : Int) := by rw [IntKind.wrap_i64]; omega
            have w3 : IntKind.i64.wrap (((m + t + d : Nat) : Int) + (e : Int)) = ((m + t + d + e : Nat) : Int) := by rw [IntKind.wrap_i64]; omega
            have w5 : IntKind.i64.wrap ((m : Int) + (t : Int) + (d : Int)) = ((m + t + d : Nat) : Int) := by rw [IntKind.wrap_i64]; omega
            have w4 : IntKind.i64.wrap ((m : Int) + (t : Int) + (d : Int) + (e : Int)) = ((m + t + d + e : Nat) : Int) := by rw [IntKind.wrap_i64]; omega
            go_wp2
            all_goals first | omega | skip
            go_quiet (fail)
            all_goals first | omega | skip
            go_wp2
            all_goals first | omega | skip
            go_roundw
            case rel => exact ⟨i + 1, m + t + d + e, by go_num, by go_num, by omega, by omega, below_drewN hB.out nq⟩
            case measure => simp [intOf]; omega
    · have q0 : decide ((i : Int) < (n : Int)) = false := by simp; omega
      obtain rfl : i = n := by omega
      go_wp2
      all_goals first | omega | skip
      go_ret
      exact ⟨boolOut _, hB.out⟩
end Go.Proofs.YtmndccbeddaphaaGreatDoor
