/- The law's known runs. -/
import Derived.Test.YtebbbefknfldoaaAp1
import Derived.Test.YtebbbefknfldoaaQuietB
import Derived.Lib.Strings
import Derived.BigQuiet
import Derived.Deep.DeepCutAuto
/- spandrelbook's Same of texts, spandrelkeep's SameEqus, of any two. -/
namespace Go.Proofs.Ytebbbefknfldoaa
open Go.ChangeShapes Go.WideShapes Go.ChangeAt Go.RowKit Go.Sort
set_option linter.unusedVariables false
set_option linter.unusedSimpArgs false
set_option maxRecDepth 100000
def StIn (w : World) (a : Option Addr) (l : List (List UInt8)) : Prop := l = [] ∨ ∃ g o, a = some ⟨g, o, none⟩ ∧ g < w.heap.size ∧ ∀ (i : Nat) (s : List UInt8), l[i]? = some s → w.cell? ⟨g, o + i, none⟩ = some (.string (str s))
theorem stIn_at {w : World} {a : Option Addr} {l : List (List UInt8)} (h : StIn w a l) {i : Nat} {x : List UInt8} (hi : l[i]? = some x) : ∃ g o, a = some ⟨g, o, none⟩ ∧ g < w.heap.size ∧ w.cell? ⟨g, o + i, none⟩ = some (.string (str x)) := by
  rcases h with h | ⟨g, o, h1, h2, h3⟩
  · subst h; cases hi
  · exact ⟨g, o, h1, h2, h3 i x hi⟩
theorem eqIn_at {w : World} {a : Option Addr} {l : List (List UInt8 × Lin)} (h : EqIn w a l) {i : Nat} {q : List UInt8 × Lin} (hi : l[i]? = some q) : ∃ g o, a = some ⟨g, o, none⟩ ∧ g < w.heap.size ∧ ∃ va vc, w.cell? ⟨g, o + i * 3, none⟩ = some (.string (str q.1)) ∧ w.cell? ⟨g, o + i * 3 + 1, none⟩ = some (.slice va q.2.terms.length vc) ∧ w.cell? ⟨g, o + i * 3 + 2, none⟩ = some (.int .u32 q.2.const) ∧ TmLies w va q.2.terms := by
  rcases h with h | ⟨g, o, h1, h2, h3⟩
  · subst h; cases hi
  · obtain ⟨va, vc, k1, k2, k3, k4⟩ := h3 i q hi
    exact ⟨g, o, h1, h2, va, vc, k1, k2, k3, k4⟩
theorem str_ne {s t : List UInt8} (h : s ≠ t) : ((str s).toList == (str t).toList) = false := by
  rw [Lib.toList_data, Lib.toList_data]
  simp only [beq_eq_false_iff_ne, ne_eq, str]
  intro he
  exact h (by simpa using he)
noncomputable def sqB {α : Type} (x y : α) : Bool := @decide (x = y) (Classical.propDecidable _)
theorem sqB_pos {α : Type} {x y : α} (h : x = y) : sqB x y = true := by unfold sqB; exact @decide_eq_true _ (Classical.propDecidable _) h
theorem sqB_neg {α : Type} {x y : α} (h : x ≠ y) : sqB x y = false := by unfold sqB; exact @decide_eq_false _ (Classical.propDecidable _) h
theorem int_ne {a b : Int} (h : a ≠ b) : (a == b) = false := by simpa using h
set_option maxHeartbeats 1000000 in
theorem take_eq {α : Type} {l m : List α} {i : Nat} {x : α} (h : l.take i = m.take i) (hx : l[i]? = some x) (hy : m[i]? = some x) : l.take (i + 1) = m.take (i + 1) := by rw [List.take_add_one, List.take_add_one, h, hx, hy]
theorem ne_at {α : Type} {l m : List α} {i : Nat} {x y : α} (hx : l[i]? = some x) (hy : m[i]? = some y) (h : x ≠ y) : l ≠ m := fun e => by
  subst e
  rw [hx] at hy
  cases hy
  exact h rfl
theorem linV_eq {x y : Lin} : sameL x.terms y.terms x.const y.const = sqB x y := by
  unfold sameL
  by_cases h : x = y
  · rw [sqB_pos h, h]; simp
  · rw [sqB_neg h]
    by_cases h1 : x.const = y.const
    · have : x.terms ≠ y.terms := fun e => h (by cases x; cases y; simp_all)
      simp [h1, this]
    · simp [h1]
set_option maxHeartbeats 4000000 in
theorem sameStr_is (l m : List (List UInt8)) (hm : l.length ≤ 1100000) (hm' : m.length ≤ 1100000) (ai bi : Option Addr) (ci di : Nat) (w : World) (h1 : StIn w ai l) (h2 : StIn w bi m) :
    Calls Try.prog 13 #[.slice ai l.length ci, .slice bi m.length di] w fun e w' => e = .returned (.bool (sqB l m)) ∧ Below w.heap.size w w' := by
  by_cases hlen : l.length = m.length
  rotate_left
  · rw [sqB_neg (fun e => hlen (by rw [e]))]
    obtain ⟨n0, hn0⟩ : ∃ n0, n0 = l.length := ⟨_, rfl⟩
    obtain ⟨n1, hn1⟩ : ∃ n1, n1 = m.length := ⟨_, rfl⟩
    rw [← hn0, ← hn1] at hlen ⊢
    have hne : ((n0 : Int) == (n1 : Int)) = false := int_ne (by omega)
    have hne2 : ¬ (n0 = n1) := hlen
    clear hn0 hn1 h1 h2
    go_enter Try.func13, Try.ntmps13
    go_wp2
    all_goals first | omega | skip
    go_ret
    exact ⟨rfl, Below.refl _ _⟩
  · obtain ⟨ni, hn⟩ : ∃ ni, ni = l.length := ⟨_, rfl⟩
    rw [← hlen, ← hn]
    have hnm : ni ≤ 1100000 := by omega
    rw [← hn] at hlen
    replace hn := Hid.intro hn
    replace hlen := Hid.intro hlen
    have hyes : Hid (l.take ni = m.take ni → sqB l m = true) := fun h => sqB_pos (by rwa [List.take_of_length_le (by rw [hn.out]; exact Nat.le_refl _), List.take_of_length_le (by rw [hlen.out]; exact Nat.le_refl _)] at h)
    have hno : Hid (∀ i x y, l[i]? = some x → m[i]? = some y → x ≠ y → sqB l m = false) := fun i x y hx hy hne => sqB_neg (ne_at hx hy hne)
    generalize sqB l m = AA at *
    clear hm hm'
    replace h1 := Hid.intro h1
    replace h2 := Hid.intro h2
    go_enter Try.func13, Try.ntmps13
    go_wp2
    all_goals first | omega | skip
    go_loopw [5] (fun v5 wr => ∃ i : Nat, i ≤ ni ∧ v5 = .int .i64 (i : Int) ∧ Hid (Below w.heap.size w wr) ∧ Hid (l.take i = m.take i)) (fun v5 wr => ni - (intOf v5).toNat)
    case atStart => exact ⟨0, by omega, rfl, Hid.intro (Below.refl _ _), rfl⟩
    case round =>
      obtain ⟨i, hi, rfl, hB, hT⟩ := hrel
      by_cases hlt : i < ni
      · obtain ⟨x, hx⟩ : ∃ x, l[i]? = some x := ⟨l[i]'(by rw [← hn.out]; exact hlt), List.getElem?_eq_getElem _⟩
        obtain ⟨y, hy⟩ : ∃ y, m[i]? = some y := ⟨m[i]'(by rw [← hlen.out]; exact hlt), List.getElem?_eq_getElem _⟩
        have hP : Hid (∀ p : BelowOf wr, Below w.heap.size w p.wd) := fun p => hB.out.trans (p.h.mono hB.out.size)
        obtain ⟨g, o, hg, hgl, hI⟩ := stIn_at h1.out hx
        obtain ⟨g', o', hg', hgl', hJ⟩ := stIn_at h2.out hy
        subst hg
        subst hg'
        have c0 : ∀ p : BelowOf wr, p.wd.cell? ⟨g, o + i, none⟩ = some (.string (str x)) := fun p => ((hP.out p).cell (p := ⟨g, _, none⟩) hgl).trans hI
        have d0 : ∀ p : BelowOf wr, p.wd.cell? ⟨g', o' + i, none⟩ = some (.string (str y)) := fun p => ((hP.out p).cell (p := ⟨g', _, none⟩) hgl').trans hJ
        have hxH := Hid.intro hx
        have hyH := Hid.intro hy
        have hlt2 : (i : Int) < (ni : Int) := by omega
        have i0 : (0 : Int) ≤ (i : Int) := by omega
        clear hI hJ hx hy hgl hgl'
        by_cases hxy : x = y
        rotate_left
        · have hf := str_ne hxy
          go_wp2_with fail
          all_goals first | omega | skip
          refine wp_region_quiet_below (by kernel_rfl) (by kernel_rfl) ?_
          repeat (first | (with_reducible refine wpQuiet_skip (by with_unfolding_all rfl) ?_; simp only [Act.put, List.setIfInBounds_toArray, List.set_cons_zero, List.set_cons_succ]) | (with_reducible refine wpQuiet_step (fun K hK => ?_); go_simp; first | (with_reducible refine hK _ ?_; clear hK K) | (apply Exists.intro; refine ⟨fun p => ?_, hK _ ?_⟩; fail; clear hK K)))
          with_reducible refine wpQuiet_nil ?_
          intro _ hw'
          obtain ⟨pq, hw''⟩ := hw'
          subst hw''
          clear c0 d0
          have hend := Hid.intro (hP.out pq)
          have hA := Hid.intro (hno.out i x y hxH.out hyH.out hxy)
          go_wp2_with fail
          all_goals first | omega | skip
          go_ret
          exact ⟨by rw [hA.out]; rfl, hend.out⟩
        · have hc0 : ∀ p : BelowOf wr, p.wd.cell? ⟨g', o' + i, none⟩ = some (.string (str x)) := by rw [hxy]; exact d0
          clear d0
          go_wp2_with fail
          all_goals first | omega | skip
          refine wp_region_quiet_below (by kernel_rfl) (by kernel_rfl) ?_
          repeat (first | (with_reducible refine wpQuiet_skip (by with_unfolding_all rfl) ?_; simp only [Act.put, List.setIfInBounds_toArray, List.set_cons_zero, List.set_cons_succ]) | (with_reducible refine wpQuiet_step (fun K hK => ?_); go_simp; first | (with_reducible refine hK _ ?_; clear hK K) | (apply Exists.intro; refine ⟨fun p => ?_, hK _ ?_⟩; fail; clear hK K)))
          with_reducible refine wpQuiet_nil ?_
          intro _ hw'
          obtain ⟨pq, hw''⟩ := hw'
          subst hw''
          clear c0 hc0
          have hend := Hid.intro (hP.out pq)
          have hTT := Hid.intro (take_eq hT.out hxH.out (by rw [hxy]; exact hyH.out))
          go_wp2_with fail
          all_goals first | omega | skip
          go_roundw
          case rel => exact ⟨i + 1, by omega, by go_num, hend, hTT⟩
          case measure => simp [intOf]; omega
      · have hin : i = ni := by omega
        subst hin
        have hlt3 : ¬ ((i : Int) < (i : Int)) := by omega
        have hA := Hid.intro (hyes.out hT.out)
        go_wp2
        all_goals first | omega | skip
        go_ret
        exact ⟨by rw [hA.out]; rfl, hB.out⟩
set_option maxHeartbeats 4000000 in
theorem sameEqus_is (l m : List (List UInt8 × Lin)) (hm : l.length ≤ 1100000) (hm' : m.length ≤ 1100000) (ht : ∀ x ∈ l, x.2.terms.length ≤ 9000000) (ht' : ∀ x ∈ m, x.2.terms.length ≤ 9000000) (ai bi : Option Addr) (ci di : Nat) (w : World) (h1 : EqIn w ai l) (h2 : EqIn w bi m) :
    Calls Try.prog 18 #[.slice ai l.length ci, .slice bi m.length di] w fun e w' => e = .returned (.bool (sqB l m)) ∧ Below w.heap.size w w' := by
  by_cases hlen : l.length = m.length
  rotate_left
  · rw [sqB_neg (fun e => hlen (by rw [e]))]
    obtain ⟨n0, hn0⟩ : ∃ n0, n0 = l.length := ⟨_, rfl⟩
    obtain ⟨n1, hn1⟩ : ∃ n1, n1 = m.length := ⟨_, rfl⟩
    rw [← hn0, ← hn1] at hlen ⊢
    have hne : ((n0 : Int) == (n1 : Int)) = false := int_ne (by omega)
    have hne2 : ¬ (n0 = n1) := hlen
    clear hn0 hn1 h1 h2
    go_enter Try.func18, Try.ntmps18
    go_wp2
    all_goals first | omega | skip
    go_ret
    exact ⟨rfl, Below.refl _ _⟩
  · obtain ⟨ni, hn⟩ : ∃ ni, ni = l.length := ⟨_, rfl⟩
    rw [← hlen, ← hn]
    have hnm : ni ≤ 1100000 := by omega
    rw [← hn] at hlen
    replace hn := Hid.intro hn
    replace hlen := Hid.intro hlen
    have hyes : Hid (l.take ni = m.take ni → sqB l m = true) := fun h => sqB_pos (by rwa [List.take_of_length_le (by rw [hn.out]; exact Nat.le_refl _), List.take_of_length_le (by rw [hlen.out]; exact Nat.le_refl _)] at h)
    have hno : Hid (∀ i x y, l[i]? = some x → m[i]? = some y → x ≠ y → sqB l m = false) := fun i x y hx hy hne => sqB_neg (ne_at hx hy hne)
    generalize sqB l m = AA at *
    clear hm hm'
    replace h1 := Hid.intro h1
    replace h2 := Hid.intro h2
    go_enter Try.func18, Try.ntmps18
    go_wp2
    all_goals first | omega | skip
    go_loopw [5] (fun v5 wr => ∃ i : Nat, i ≤ ni ∧ v5 = .int .i64 (i : Int) ∧ Hid (Below w.heap.size w wr) ∧ Hid (l.take i = m.take i)) (fun v5 wr => ni - (intOf v5).toNat)
    case atStart => exact ⟨0, by omega, rfl, Hid.intro (Below.refl _ _), rfl⟩
    case round =>
      obtain ⟨i, hi, rfl, hB, hT⟩ := hrel
      by_cases hlt : i < ni
      · obtain ⟨x, hx⟩ : ∃ x, l[i]? = some x := ⟨l[i]'(by rw [← hn.out]; exact hlt), List.getElem?_eq_getElem _⟩
        obtain ⟨y, hy⟩ : ∃ y, m[i]? = some y := ⟨m[i]'(by rw [← hlen.out]; exact hlt), List.getElem?_eq_getElem _⟩
        have hP : Hid (∀ p : BelowOf wr, Below w.heap.size w p.wd) := fun p => hB.out.trans (p.h.mono hB.out.size)
        obtain ⟨g, o, hg, hgl, xa, xc, hI0, hI1, hI2, hTm⟩ := eqIn_at h1.out hx
        obtain ⟨g', o', hg', hgl', ya, yc, hJ0, hJ1, hJ2, hTn⟩ := eqIn_at h2.out hy
        subst hg
        subst hg'
        have h56 : Hid (∀ p : BelowOf wr, Calls Try.prog 11 #[linV (.slice xa x.2.terms.length xc) x.2.const, linV (.slice ya y.2.terms.length yc) y.2.const] p.wd fun e w' => e = .returned (.bool (sqB x.2 y.2)) ∧ Below p.wd.heap.size p.wd w') := fun p => by
          have := refSame_any xa ya xc yc x.2.terms y.2.terms x.2.const y.2.const p.wd (hTm.below (hP.out p) (Nat.le_refl _)) (hTn.below (hP.out p) (Nat.le_refl _)) (ht x (List.mem_of_getElem? hx)) (ht' y (List.mem_of_getElem? hy))
          rwa [linV_eq] at this
        have c0 : ∀ p : BelowOf wr, p.wd.cell? ⟨g, o + i * 3, none⟩ = some (.string (str x.1)) := fun p => ((hP.out p).cell (p := ⟨g, _, none⟩) hgl).trans hI0
        have c1 : ∀ p : BelowOf wr, p.wd.cell? ⟨g, o + i * 3 + 1, none⟩ = some (.slice xa x.2.terms.length xc) := fun p => ((hP.out p).cell (p := ⟨g, _, none⟩) hgl).trans hI1
        have c2 : ∀ p : BelowOf wr, p.wd.cell? ⟨g, o + i * 3 + 2, none⟩ = some (.int .u32 x.2.const) := fun p => ((hP.out p).cell (p := ⟨g, _, none⟩) hgl).trans hI2
        have d0 : ∀ p : BelowOf wr, p.wd.cell? ⟨g', o' + i * 3, none⟩ = some (.string (str y.1)) := fun p => ((hP.out p).cell (p := ⟨g', _, none⟩) hgl').trans hJ0
        have d1 : ∀ p : BelowOf wr, p.wd.cell? ⟨g', o' + i * 3 + 1, none⟩ = some (.slice ya y.2.terms.length yc) := fun p => ((hP.out p).cell (p := ⟨g', _, none⟩) hgl').trans hJ1
        have d2 : ∀ p : BelowOf wr, p.wd.cell? ⟨g', o' + i * 3 + 2, none⟩ = some (.int .u32 y.2.const) := fun p => ((hP.out p).cell (p := ⟨g', _, none⟩) hgl').trans hJ2
        generalize x.2.terms.length = xn at h56 c1
        generalize y.2.terms.length = yn at h56 d1
        clear hI0 hI1 hI2 hJ0 hJ1 hJ2 hTm hTn hgl hgl'
        have hxH := Hid.intro hx
        have hyH := Hid.intro hy
        have hlt2 : (i : Int) < (ni : Int) := by omega
        have i0 : (0 : Int) ≤ (i : Int) := by omega
        clear hx hy
        by_cases hx1 : x.1 = y.1
        rotate_left
        · have hf := str_ne hx1
          have hxy : x ≠ y := fun e => hx1 (by rw [e])
          go_wp2_with fail
          all_goals first | omega | skip
          refine wp_region_quiet_below (by kernel_rfl) (by kernel_rfl) ?_
          repeat (first | (with_reducible refine wpQuiet_skip (by with_unfolding_all rfl) ?_; simp only [Act.put, List.setIfInBounds_toArray, List.set_cons_zero, List.set_cons_succ]) | (with_reducible refine wpQuiet_step (fun K hK => ?_); go_simp; first | (with_reducible refine hK _ ?_; clear hK K) | (apply Exists.intro; refine ⟨fun p => ?_, hK _ ?_⟩; fail; clear hK K)))
          with_reducible refine wpQuiet_nil ?_
          intro _ hw'
          obtain ⟨pq, hw''⟩ := hw'
          subst hw''
          clear c0 c1 c2 d0 d1 d2
          have hend := Hid.intro (hP.out pq)
          have hA := Hid.intro (hno.out i x y hxH.out hyH.out hxy)
          go_wp2_with fail
          all_goals first | omega | skip
          go_ret
          exact ⟨by rw [hA.out]; rfl, hend.out⟩
        · by_cases hx2 : x.2 = y.2
          rotate_left
          · rw [sqB_neg hx2] at h56
            have hxy : x ≠ y := fun e => hx2 (by rw [e])
            have d0' : ∀ p : BelowOf wr, p.wd.cell? ⟨g', o' + i * 3, none⟩ = some (.string (str x.1)) := by rw [hx1]; exact d0
            clear d0
            go_wp2_with fail
            all_goals first | omega | skip
            refine wp_region_quiet_below (by kernel_rfl) (by kernel_rfl) ?_
            repeat (first | (with_reducible refine wpQuiet_skip (by with_unfolding_all rfl) ?_; simp only [Act.put, List.setIfInBounds_toArray, List.set_cons_zero, List.set_cons_succ]) | (with_reducible refine wpQuiet_step (fun K hK => ?_); go_simp; first | (with_reducible refine hK _ ?_; clear hK K) | (apply Exists.intro; refine ⟨fun p => ?_, hK _ ?_⟩; (go_at_call 11; with_reducible refine below_calls (h56.out p)); clear hK K)))
            with_reducible refine wpQuiet_nil ?_
            intro _ hw'
            obtain ⟨pq, hw''⟩ := hw'
            subst hw''
            clear c0 c1 c2 d0' d1 d2
            have hend := Hid.intro (hP.out pq)
            have hA := Hid.intro (hno.out i x y hxH.out hyH.out hxy)
            go_wp2_with fail
            all_goals first | omega | skip
            go_ret
            exact ⟨by rw [hA.out]; rfl, hend.out⟩
          · rw [sqB_pos hx2] at h56
            have hxy := Hid.intro (Prod.ext hx1 hx2 : x = y)
            have d0' : ∀ p : BelowOf wr, p.wd.cell? ⟨g', o' + i * 3, none⟩ = some (.string (str x.1)) := by rw [hx1]; exact d0
            clear d0 hx1 hx2
            go_wp2_with fail
            all_goals first | omega | skip
            refine wp_region_quiet_below (by kernel_rfl) (by kernel_rfl) ?_
            repeat (first | (with_reducible refine wpQuiet_skip (by with_unfolding_all rfl) ?_; simp only [Act.put, List.setIfInBounds_toArray, List.set_cons_zero, List.set_cons_succ]) | (with_reducible refine wpQuiet_step (fun K hK => ?_); go_simp; first | (with_reducible refine hK _ ?_; clear hK K) | (apply Exists.intro; refine ⟨fun p => ?_, hK _ ?_⟩; (go_at_call 11; with_reducible refine below_calls (h56.out p)); clear hK K)))
            with_reducible refine wpQuiet_nil ?_
            intro _ hw'
            obtain ⟨pq, hw''⟩ := hw'
            subst hw''
            clear c0 c1 c2 d0' d1 d2
            have hend := Hid.intro (hP.out pq)
            have hTT := Hid.intro (take_eq hT.out hxH.out (by rw [hxy.out]; exact hyH.out))
            go_wp2_with fail
            all_goals first | omega | skip
            go_roundw
            case rel => exact ⟨i + 1, by omega, by go_num, hend, hTT⟩
            case measure => simp [intOf]; omega
      · have hin : i = ni := by omega
        subst hin
        have hlt3 : ¬ ((i : Int) < (i : Int)) := by omega
        have hA := Hid.intro (hyes.out hT.out)
        go_wp2
        all_goals first | omega | skip
        go_ret
        exact ⟨by rw [hA.out]; rfl, hB.out⟩
end Go.Proofs.Ytebbbefknfldoaa
/- The law's equs: of. -/
namespace Go.Proofs.Ytebbbefknfldoaa
open Go.ChangeShapes Go.WideShapes Go.ChangeAt Go.RowKit
set_option linter.unusedVariables false
set_option linter.unusedSimpArgs false
set_option maxRecDepth 100000
set_option maxHeartbeats 4000000 in
theorem of_any (S O : ByteArray) (n c : Int) (w : World) : Calls Try.prog 9 #[.string S, .string O, .int .u32 n, .int .u32 c] w fun e w' => ∃ b, e = .returned (.agg #[.string S, .slice (some ⟨b, 0, none⟩) 1 1, .int .u32 c]) ∧ w'.heap[b]? = some (.cells #[.string O, .int .u32 n] 49 (0, 0)) ∧ Below w.heap.size w w' := by
  go_enter Try.func9, Try.ntmps9
  go_wp2
  all_goals first | omega | skip
  have h1 := heap_alloc_new (w.alloc (.cells #[.string S, .slice (some ⟨w.heap.size + 1, 0, none⟩) 1 1, .int .u32 c] 31)) (.cells #[.string O, .int .u32 n] 49)
  have h0 : ((w.alloc (.cells #[.string S, .slice (some ⟨w.heap.size + 1, 0, none⟩) 1 1, .int .u32 c] 31)).alloc (.cells #[.string O, .int .u32 n] 49)).heap[w.heap.size]? = some (.cells #[.string S, .slice (some ⟨w.heap.size + 1, 0, none⟩) 1 1, .int .u32 c] 31 (0, 0)) := by
    rw [(below_alloc (w.alloc _) _).block _ (by simp)]
    exact heap_alloc_new w _
  have hb : Below w.heap.size w ((w.alloc (.cells #[.string S, .slice (some ⟨w.heap.size + 1, 0, none⟩) 1 1, .int .u32 c] 31)).alloc (.cells #[.string O, .int .u32 n] 49)) := (below_alloc w _).alloc (by simp) _
  simp only [World.size_alloc] at h1
  generalize ((w.alloc (.cells #[.string S, .slice (some ⟨w.heap.size + 1, 0, none⟩) 1 1, .int .u32 c] 31)).alloc (.cells #[.string O, .int .u32 n] 49)) = W at *
  have c0 := (Joins.cell_of_block h0 0).trans rfl
  have c1 := (Joins.cell_of_block h0 1).trans rfl
  have c2 := (Joins.cell_of_block h0 2).trans rfl
  refine bodyPost_ret (by simp [results, Try.results9, go_sem, c0, c1, c2]; try rfl) rfl ?_
  exact ⟨_, rfl, h1, hb⟩
abbrev eqv (nm ot : List UInt8) (n c : Int) : Eqv := (nm, ⟨[⟨ot, n⟩], c⟩)
def OfL (w : World) (b : Nat) (O : ByteArray) (n : Int) : Prop := w.heap[b]? = some (.cells #[.string O, .int .u32 n] 49 (0, 0))
theorem OfL.below {w w' : World} {b : Nat} {O : ByteArray} {n : Int} (h : OfL w b O n) (hb : Below w.heap.size w w') : OfL w' b O n := (hb.block _ (wblk_lt h)).trans h
theorem OfL.lies {w : World} {b : Nat} {o : List UInt8} {n : Int} (h : OfL w b (str o) n) : TmLies w (some ⟨b, 0, none⟩) [⟨o, n⟩] := by
  refine .inr ⟨b, 0, rfl, wblk_lt h, fun i t hi => ?_⟩
  match i, hi with
  | 0, hi =>
    cases hi
    exact ⟨(Joins.cell_of_block h 0).trans rfl, (Joins.cell_of_block h 1).trans rfl⟩
def rowO (qs : List (List UInt8 × List UInt8 × Int × Int × Nat)) : List Value := qs.flatMap fun q => [.string (str q.1), .slice (some ⟨q.2.2.2.2, 0, none⟩) 1 1, .int .u32 q.2.2.2.1]
theorem rowO_get : ∀ (qs : List (List UInt8 × List UInt8 × Int × Int × Nat)) (i : Nat) (q : List UInt8 × List UInt8 × Int × Int × Nat), qs[i]? = some q → (rowO qs)[i * 3]? = some (.string (str q.1)) ∧ (rowO qs)[i * 3 + 1]? = some (.slice (some ⟨q.2.2.2.2, 0, none⟩) 1 1) ∧ (rowO qs)[i * 3 + 2]? = some (.int .u32 q.2.2.2.1)
  | [], i, q, h => by cases h
  | x :: l, 0, q, h => by
    have : x = q := by simpa using h
    subst this
    exact ⟨rfl, rfl, rfl⟩
  | x :: l, i + 1, q, h => by
    obtain ⟨h1, h2, h3⟩ := rowO_get l i q (by simpa using h)
    have e : rowO (x :: l) = .string (str x.1) :: .slice (some ⟨x.2.2.2.2, 0, none⟩) 1 1 :: .int .u32 x.2.2.2.1 :: rowO l := rfl
    rw [e, show (i + 1) * 3 = i * 3 + 1 + 1 + 1 by omega]
    exact ⟨h1, h2, h3⟩
theorem eqs_made (W : World) (qs : List (List UInt8 × List UInt8 × Int × Int × Nat)) (h : ∀ q ∈ qs, OfL W q.2.2.2.2 (str q.2.1) q.2.2.1) : EqIn (W.alloc (.cells (rowO qs).toArray 31)) (some ⟨W.heap.size, 0, none⟩) (qs.map fun q => eqv q.1 q.2.1 q.2.2.1 q.2.2.2.1) := by
  refine .inr ⟨W.heap.size, 0, rfl, by simp, fun i e hi => ?_⟩
  rw [List.getElem?_map] at hi
  cases hq : qs[i]? with
  | none => rw [hq] at hi; cases hi
  | some q =>
    rw [hq] at hi
    have : eqv q.1 q.2.1 q.2.2.1 q.2.2.2.1 = e := by simpa using hi
    subst this
    obtain ⟨h1, h2, h3⟩ := rowO_get qs i q hq
    have hn := heap_alloc_new W (.cells (rowO qs).toArray 31)
    have hc : ∀ j u, (rowO qs)[j]? = some u → (W.alloc (.cells (rowO qs).toArray 31)).cell? ⟨W.heap.size, j, none⟩ = some u := fun j u hu => (Joins.cell_of_block hn j).trans (by simpa using hu)
    refine ⟨some ⟨q.2.2.2.2, 0, none⟩, 1, ?_, ?_, ?_, ?_⟩
    · rw [Nat.zero_add]; exact hc _ _ h1
    · rw [Nat.zero_add]; exact hc _ _ h2
    · rw [Nat.zero_add]; exact hc _ _ h3
    · exact ((h q (List.mem_of_getElem? hq)).below (below_alloc W _)).lies
def solL (l : List Eqv) : List Eqv := (List.range l.length).map fun j => (nmOf l j, (svF l (walkL l).order (nmOf l j)).getD ⟨[], 0⟩)
theorem sol_eqIn {w w' : World} {l : List Eqv} {g : Nat} {v : Nat → Value} (h : SolO w l g v w') : EqIn w' (some ⟨g, 0, none⟩) (solL l) := by
  obtain ⟨cur, c1, c2, c3⟩ := h.out
  refine .inr ⟨g, 0, rfl, wblk_lt c1, fun i q hi => ?_⟩
  unfold solL at hi
  rw [List.getElem?_map] at hi
  by_cases hil : i < l.length
  · rw [List.getElem?_range hil] at hi
    have : (nmOf l i, (svF l (walkL l).order (nmOf l i)).getD ⟨[], 0⟩) = q := by simpa using hi
    subst this
    obtain ⟨e, k1, k2⟩ := h.row i hil
    obtain ⟨d1, d2, d3⟩ := c3 i hil trivial
    obtain ⟨va, vc, hv⟩ := own_slice k2
    dsimp only at d1 d2 d3
    rw [k1] at d3 ⊢
    dsimp only [Option.getD_some] at d1 d2 d3 ⊢
    rw [hv] at d2 k2
    have hc : ∀ j u, cur[j]? = some u → w'.cell? ⟨g, j, none⟩ = some u := fun j u hu => (Joins.cell_of_block c1 j).trans hu
    exact ⟨va, vc, by rw [Nat.zero_add]; exact hc _ _ d1, by rw [Nat.zero_add]; exact hc _ _ d2, by rw [Nat.zero_add]; exact hc _ _ d3, own_tmLies k2⟩
  · rw [List.getElem?_eq_none (by simp; omega)] at hi
    cases hi
end Go.Proofs.Ytebbbefknfldoaa
namespace Go.Proofs.Ytebbbefknfldoaa
open Go.ChangeShapes Go.WideShapes Go.ChangeAt Go.RowKit
set_option linter.unusedVariables false
set_option linter.unusedSimpArgs false
set_option maxRecDepth 100000
theorem cyc_none {l : List Eqv} (hnd : (l.map (·.1)).Nodup) (hl : l.length < Ta.big) (h : (walkL l).back = []) : ∀ x, ¬ CycN l x := fun x hx => by
  have := (back_has hnd hl x).2 hx
  rw [h] at this
  cases this
theorem cyc_mem {l : List Eqv} (hnd : (l.map (·.1)).Nodup) (hl : l.length < Ta.big) {i : Nat} (hi : i < l.length) : Ta.Cyc (adjF l) i ↔ i ∈ (walkL l).back := by
  have := (walk_right hnd hl).2.1 i
  exact ⟨fun h => this.2 ⟨hi, h⟩, fun h => (this.1 h).2⟩
def k1L : List Eqv := [eqv [97] [98] 2 1, eqv [98] [99] 1 4294967293]
def k1A : List Eqv := [eqv [97] [99] 2 4294967291, eqv [98] [99] 1 4294967293]
def k2L : List Eqv := [eqv [120] [97] 1 0, eqv [97] [98] 1 0, eqv [98] [97] 1 0]
theorem k1_sol : solL k1L = k1A := by
  have h : (walkL k1L).order = [1, 0] := by decide +kernel
  unfold solL
  rw [h]
  have e0 : svF k1L [1, 0] [97] = some ⟨[⟨[99], 2⟩], 4294967291⟩ := by
    have t : ((svF k1L [1, 0] [97]).getD ⟨[], 0⟩).terms = [⟨[99], 2⟩] := by decide +kernel
    have c : ((svF k1L [1, 0] [97]).getD ⟨[], 0⟩).const = 4294967291 := by decide +kernel
    have s : (svF k1L [1, 0] [97]).isSome = true := by decide +kernel
    obtain ⟨e, he⟩ := Option.isSome_iff_exists.1 s
    rw [he] at t c ⊢
    obtain ⟨a, b⟩ := e
    dsimp only [Option.getD_some] at t c
    rw [t, c]
  have e1 : svF k1L [1, 0] [98] = some ⟨[⟨[99], 1⟩], 4294967293⟩ := by
    have t : ((svF k1L [1, 0] [98]).getD ⟨[], 0⟩).terms = [⟨[99], 1⟩] := by decide +kernel
    have c : ((svF k1L [1, 0] [98]).getD ⟨[], 0⟩).const = 4294967293 := by decide +kernel
    have s : (svF k1L [1, 0] [98]).isSome = true := by decide +kernel
    obtain ⟨e, he⟩ := Option.isSome_iff_exists.1 s
    rw [he] at t c ⊢
    obtain ⟨a, b⟩ := e
    dsimp only [Option.getD_some] at t c
    rw [t, c]
  show [(([97] : List UInt8), (svF k1L [1, 0] [97]).getD ⟨[], 0⟩), (([98] : List UInt8), (svF k1L [1, 0] [98]).getD ⟨[], 0⟩)] = _
  rw [e0, e1]
  rfl
theorem canL_one {ot : List UInt8} {n c : Int} (hn : 0 < n ∧ n < 4294967296) (hc : 0 ≤ c ∧ c < 4294967296) : CanL ⟨[⟨ot, n⟩], c⟩ :=
  ⟨⟨by simp, fun t ht => by rw [List.mem_singleton.1 ht]; exact hn⟩, hc⟩
theorem k1_held : ∀ q ∈ k1L, q.1.length ≤ 140737488355328 ∧ CanL q.2 := fun q hq => by
  have : q = eqv [97] [98] 2 1 ∨ q = eqv [98] [99] 1 4294967293 := by simpa [k1L] using hq
  rcases this with rfl | rfl
  · exact ⟨by decide, canL_one (by decide) (by decide)⟩
  · exact ⟨by decide, canL_one (by decide) (by decide)⟩
theorem held_of {l : List Eqv} (h : ∀ q ∈ l, q.1.length ≤ 100 ∧ q.2.terms.length ≤ 100 ∧ ∀ t ∈ q.2.terms, t.name.length ≤ 100) : ∀ q ∈ l, q.1.length ≤ 140737488355328 ∧ q.2.terms.length ≤ 4400000 ∧ ∀ t ∈ q.2.terms, t.name.length ≤ 140737488355328 := fun q hq => ⟨by have := (h q hq).1; omega, by have := (h q hq).2.1; omega, fun t ht => by have := (h q hq).2.2 t ht; omega⟩
theorem k1_run (b1 b2 : Nat) (W : World) (h1 : OfL W b1 ⟨#[98]⟩ 2) (h2 : OfL W b2 ⟨#[99]⟩ 1) :
    Calls Try.prog 8 #[.slice (some ⟨W.heap.size, 0, none⟩) 2 2] (W.alloc (.cells #[.string ⟨#[97]⟩, .slice (some ⟨b1, 0, none⟩) 1 1, .int .u32 1, .string ⟨#[98]⟩, .slice (some ⟨b2, 0, none⟩) 1 1, .int .u32 4294967293] 31)) fun e w' => ∃ g, e = .returned (.tuple #[.slice (some ⟨g, 0, none⟩) 2 2, .int .i64 0, .int .i64 0]) ∧ EqIn w' (some ⟨g, 0, none⟩) k1A ∧ Below W.heap.size W w' := by
  have hE := eqs_made W [([97], [98], 2, 1, b1), ([98], [99], 1, 4294967293, b2)] (fun q hq => by
    have : q = ([97], [98], 2, 1, b1) ∨ q = ([98], [99], 1, 4294967293, b2) := by simpa using hq
    rcases this with rfl | rfl
    · exact h1
    · exact h2)
  have hb := below_alloc W (.cells #[.string ⟨#[97]⟩, .slice (some ⟨b1, 0, none⟩) 1 1, .int .u32 1, .string ⟨#[98]⟩, .slice (some ⟨b2, 0, none⟩) 1 1, .int .u32 4294967293] 31)
  refine (solve_ok k1L _ 2 (by decide) (by decide) k1_held (by decide) (by decide) (cyc_none (by decide) (by decide) (by decide +kernel)) _ hE).mono ?_
  rintro e w' ⟨g, v, rfl, hS⟩
  have h3 := sol_eqIn hS
  rw [k1_sol] at h3
  exact ⟨g, rfl, h3, hb.trans (hS.bel.mono hb.size)⟩
theorem k2_first (m : Nat) (h : FirstC k2L m) : m = 1 := by
  obtain ⟨h1, h2, h3⟩ := h
  have hb : (walkL k2L).back = [1, 2] := by decide +kernel
  have hc : ∀ i, i < k2L.length → (Ta.Cyc (adjF k2L) i ↔ i ∈ [1, 2]) := fun i hi => by rw [cyc_mem (by decide) (by decide) hi, hb]
  have h4 := (hc m h1).1 h2
  have h5 := h3 1 (by decide) ((hc 1 (by decide)).2 (by simp))
  simp at h4
  omega
theorem k2_run (b1 b2 b3 : Nat) (W : World) (h1 : OfL W b1 ⟨#[97]⟩ 1) (h2 : OfL W b2 ⟨#[98]⟩ 1) (h3 : OfL W b3 ⟨#[97]⟩ 1) :
    Calls Try.prog 8 #[.slice (some ⟨W.heap.size, 0, none⟩) 3 3] (W.alloc (.cells #[.string ⟨#[120]⟩, .slice (some ⟨b1, 0, none⟩) 1 1, .int .u32 0, .string ⟨#[97]⟩, .slice (some ⟨b2, 0, none⟩) 1 1, .int .u32 0, .string ⟨#[98]⟩, .slice (some ⟨b3, 0, none⟩) 1 1, .int .u32 0] 31)) fun e w' => e = .returned (.tuple #[.slice none 0 0, .int .i64 1, .int .i64 24]) ∧ Below W.heap.size W w' := by
  have hE := eqs_made W [([120], [97], 1, 0, b1), ([97], [98], 1, 0, b2), ([98], [97], 1, 0, b3)] (fun q hq => by
    have : q = ([120], [97], 1, 0, b1) ∨ q = ([97], [98], 1, 0, b2) ∨ q = ([98], [97], 1, 0, b3) := by simpa using hq
    rcases this with rfl | rfl | rfl
    · exact h1
    · exact h2
    · exact h3)
  have hb := below_alloc W (.cells #[.string ⟨#[120]⟩, .slice (some ⟨b1, 0, none⟩) 1 1, .int .u32 0, .string ⟨#[97]⟩, .slice (some ⟨b2, 0, none⟩) 1 1, .int .u32 0, .string ⟨#[98]⟩, .slice (some ⟨b3, 0, none⟩) 1 1, .int .u32 0] 31)
  refine (solve_bad k2L _ 3 (by decide) (by decide) (held_of (by decide)) ?_ _ hE).mono ?_
  · exact ⟨[97], 1, by decide, (cyc_mem (by decide) (by decide) (by decide)).2 (by decide +kernel), rfl⟩
  · rintro e w' ⟨m, rfl, hm, hb2⟩
    rw [k2_first m hm]
    exact ⟨rfl, hb.trans (hb2.mono hb.size)⟩
theorem k3_run (g b1 b2 : Nat) (W : World) (hE : EqIn W (some ⟨g, 0, none⟩) k1A) (h1 : OfL W b1 ⟨#[99]⟩ 2) (h2 : OfL W b2 ⟨#[99]⟩ 1) :
    Calls Try.prog 18 #[.slice (some ⟨g, 0, none⟩) 2 2, .slice (some ⟨W.heap.size, 0, none⟩) 2 2] (W.alloc (.cells #[.string ⟨#[97]⟩, .slice (some ⟨b1, 0, none⟩) 1 1, .int .u32 4294967291, .string ⟨#[98]⟩, .slice (some ⟨b2, 0, none⟩) 1 1, .int .u32 4294967293] 31)) fun e w' => e = .returned (.bool true) ∧ Below W.heap.size W w' := by
  have hE2 := eqs_made W [([97], [99], 2, 4294967291, b1), ([98], [99], 1, 4294967293, b2)] (fun q hq => by
    have : q = ([97], [99], 2, 4294967291, b1) ∨ q = ([98], [99], 1, 4294967293, b2) := by simpa using hq
    rcases this with rfl | rfl
    · exact h1
    · exact h2)
  have hb := below_alloc W (.cells #[.string ⟨#[97]⟩, .slice (some ⟨b1, 0, none⟩) 1 1, .int .u32 4294967291, .string ⟨#[98]⟩, .slice (some ⟨b2, 0, none⟩) 1 1, .int .u32 4294967293] 31)
  have ht : ∀ x ∈ k1A, x.2.terms.length ≤ 9000000 := by decide
  refine (sameEqus_is k1A k1A (by decide) (by decide) ht ht (some ⟨g, 0, none⟩) (some ⟨W.heap.size, 0, none⟩) 2 2 _ (hE.below hb) hE2).mono ?_
  rintro e w' ⟨rfl, hb2⟩
  exact ⟨by rw [sqB_pos rfl], hb.trans (hb2.mono hb.size)⟩
end Go.Proofs.Ytebbbefknfldoaa
