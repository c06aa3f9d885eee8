/- The document's met as a search over numbers: plain facts. -/
import Derived.Test.YtebbbefknfldoaaRgL
import Derived.Test.YtebbbefknfldoaaRight
import Derived.Lib.Strings
import Derived.BigQuiet
import Derived.Deep.DeepCutAuto
import Derived.Test.YtebbbefknfldoaaWk5
/- spandrelbook's Same of texts, spandrelkeep's SameEqus, of any two. -/
namespace Go.Proofs.Ytebbbefknfldoaa
open Go.ChangeShapes Go.WideShapes Go.ChangeAt Go.RowKit Go.Sort
set_option linter.unusedVariables false
set_option linter.unusedSimpArgs false
set_option maxRecDepth 100000
def StIn (w : World) (a : Option Addr) (l : List (List UInt8)) : Prop := l = [] ∨ ∃ g o, a = some ⟨g, o, none⟩ ∧ g < w.heap.size ∧ ∀ (i : Nat) (s : List UInt8), l[i]? = some s → w.cell? ⟨g, o + i, none⟩ = some (.string (str s))
theorem stIn_at {w : World} {a : Option Addr} {l : List (List UInt8)} (h : StIn w a l) {i : Nat} {x : List UInt8} (hi : l[i]? = some x) : ∃ g o, a = some ⟨g, o, none⟩ ∧ g < w.heap.size ∧ w.cell? ⟨g, o + i, none⟩ = some (.string (str x)) := by
  rcases h with h | ⟨g, o, h1, h2, h3⟩
  · subst h; cases hi
  · exact ⟨g, o, h1, h2, h3 i x hi⟩
theorem eqIn_at {w : World} {a : Option Addr} {l : List (List UInt8 × Lin)} (h : EqIn w a l) {i : Nat} {q : List UInt8 × Lin} (hi : l[i]? = some q) : ∃ g o, a = some ⟨g, o, none⟩ ∧ g < w.heap.size ∧ ∃ va vc, w.cell? ⟨g, o + i * 3, none⟩ = some (.string (str q.1)) ∧ w.cell? ⟨g, o + i * 3 + 1, none⟩ = some (.slice va q.2.terms.length vc) ∧ w.cell? ⟨g, o + i * 3 + 2, none⟩ = some (.int .u32 q.2.const) ∧ TmLies w va q.2.terms := by
  rcases h with h | ⟨g, o, h1, h2, h3⟩
  · subst h; cases hi
  · obtain ⟨va, vc, k1, k2, k3, k4⟩ := h3 i q hi
    exact ⟨g, o, h1, h2, va, vc, k1, k2, k3, k4⟩
theorem str_ne {s t : List UInt8} (h : s ≠ t) : ((str s).toList == (str t).toList) = false := by
  rw [Lib.toList_data, Lib.toList_data]
  simp only [beq_eq_false_iff_ne, ne_eq, str]
  intro he
  exact h (by simpa using he)
noncomputable def sqB {α : Type} (x y : α) : Bool := @decide (x = y) (Classical.propDecidable _)
theorem sqB_pos {α : Type} {x y : α} (h : x = y) : sqB x y = true := by unfold sqB; exact @decide_eq_true _ (Classical.propDecidable _) h
theorem sqB_neg {α : Type} {x y : α} (h : x ≠ y) : sqB x y = false := by unfold sqB; exact @decide_eq_false _ (Classical.propDecidable _) h
theorem int_ne {a b : Int} (h : a ≠ b) : (a == b) = false := by simpa using h
set_option maxHeartbeats 1000000 in
theorem take_eq {α : Type} {l m : List α} {i : Nat} {x : α} (h : l.take i = m.take i) (hx : l[i]? = some x) (hy : m[i]? = some x) : l.take (i + 1) = m.take (i + 1) := by rw [List.take_add_one, List.take_add_one, h, hx, hy]
theorem ne_at {α : Type} {l m : List α} {i : Nat} {x y : α} (hx : l[i]? = some x) (hy : m[i]? = some y) (h : x ≠ y) : l ≠ m := fun e => by
  subst e
  rw [hx] at hy
  cases hy
  exact h rfl
theorem linV_eq {x y : Lin} : sameL x.terms y.terms x.const y.const = sqB x y := by
  unfold sameL
  by_cases h : x = y
  · rw [sqB_pos h, h]; simp
  · rw [sqB_neg h]
    by_cases h1 : x.const = y.const
    · have : x.terms ≠ y.terms := fun e => h (by cases x; cases y; simp_all)
      simp [h1, this]
    · simp [h1]
set_option maxHeartbeats 4000000 in
theorem sameStr_is (l m : List (List UInt8)) (hm : l.length ≤ 1100000) (hm' : m.length ≤ 1100000) (ai bi : Option Addr) (ci di : Nat) (w : World) (h1 : StIn w ai l) (h2 : StIn w bi m) :
    Calls Try.prog 13 #[.slice ai l.length ci, .slice bi m.length di] w fun e w' => e = .returned (.bool (sqB l m)) ∧ Below w.heap.size w w' := by
  by_cases hlen : l.length = m.length
  rotate_left
  · rw [sqB_neg (fun e => hlen (by rw [e]))]
    obtain ⟨n0, hn0⟩ : ∃ n0, n0 = l.length := ⟨_, rfl⟩
    obtain ⟨n1, hn1⟩ : ∃ n1, n1 = m.length := ⟨_, rfl⟩
    rw [← hn0, ← hn1] at hlen ⊢
    have hne : ((n0 : Int) == (n1 : Int)) = false := int_ne (by omega)
    have hne2 : ¬ (n0 = n1) := hlen
    clear hn0 hn1 h1 h2
    go_enter Try.func13, Try.ntmps13
    go_wp2
    all_goals first | omega | skip
    go_ret
    exact ⟨rfl, Below.refl _ _⟩
  · obtain ⟨ni, hn⟩ : ∃ ni, ni = l.length := ⟨_, rfl⟩
    rw [← hlen, ← hn]
    have hnm : ni ≤ 1100000 := by omega
    rw [← hn] at hlen
    replace hn := Hid.intro hn
    replace hlen := Hid.intro hlen
    have hyes : Hid (l.take ni = m.take ni → sqB l m = true) := fun h => sqB_pos (by rwa [List.take_of_length_le (by rw [hn.out]; exact Nat.le_refl _), List.take_of_length_le (by rw [hlen.out]; exact Nat.le_refl _)] at h)
    have hno : Hid (∀ i x y, l[i]? = some x → m[i]? = some y → x ≠ y → sqB l m = false) := fun i x y hx hy hne => sqB_neg (ne_at hx hy hne)
    generalize sqB l m = AA at *
    clear hm hm'
    replace h1 := Hid.intro h1
    replace h2 := Hid.intro h2
    go_enter Try.func13, Try.ntmps13
    go_wp2
    all_goals first | omega | skip
    go_loopw [5] (fun v5 wr => ∃ i : Nat, i ≤ ni ∧ v5 = .int .i64 (i : Int) ∧ Hid (Below w.heap.size w wr) ∧ Hid (l.take i = m.take i)) (fun v5 wr => ni - (intOf v5).toNat)
    case atStart => exact ⟨0, by omega, rfl, Hid.intro (Below.refl _ _), rfl⟩
    case round =>
      obtain ⟨i, hi, rfl, hB, hT⟩ := hrel
      by_cases hlt : i < ni
      · obtain ⟨x, hx⟩ : ∃ x, l[i]? = some x := ⟨l[i]'(by rw [← hn.out]; exact hlt), List.getElem?_eq_getElem _⟩
        obtain ⟨y, hy⟩ : ∃ y, m[i]? = some y := ⟨m[i]'(by rw [← hlen.out]; exact hlt), List.getElem?_eq_getElem _⟩
        have hP : Hid (∀ p : BelowOf wr, Below w.heap.size w p.wd) := fun p => hB.out.trans (p.h.mono hB.out.size)
        obtain ⟨g, o, hg, hgl, hI⟩ := stIn_at h1.out hx
        obtain ⟨g', o', hg', hgl', hJ⟩ := stIn_at h2.out hy
        subst hg
        subst hg'
        have c0 : ∀ p : BelowOf wr, p.wd.cell? ⟨g, o + i, none⟩ = some (.string (str x)) := fun p => ((hP.out p).cell (p := ⟨g, _, none⟩) hgl).trans hI
        have d0 : ∀ p : BelowOf wr, p.wd.cell? ⟨g', o' + i, none⟩ = some (.string (str y)) := fun p => ((hP.out p).cell (p := ⟨g', _, none⟩) hgl').trans hJ
        have hxH := Hid.intro hx
        have hyH := Hid.intro hy
        have hlt2 : (i : Int) < (ni : Int) := by omega
        have i0 : (0 : Int) ≤ (i : Int) := by omega
        clear hI hJ hx hy hgl hgl'
        by_cases hxy : x = y
        rotate_left
        · have hf := str_ne hxy
          go_wp2_with fail
          all_goals first | omega | skip
          refine wp_region_quiet_below (by kernel_rfl) (by kernel_rfl) ?_
          repeat (first | (with_reducible refine wpQuiet_skip (by with_unfolding_all rfl) ?_; simp only [Act.put, List.setIfInBounds_toArray, List.set_cons_zero, List.set_cons_succ]) | (with_reducible refine wpQuiet_step (fun K hK => ?_); go_simp; first | (with_reducible refine hK _ ?_; clear hK K) | (apply Exists.intro; refine ⟨fun p => ?_, hK _ ?_⟩; fail; clear hK K)))
          with_reducible refine wpQuiet_nil ?_
          intro _ hw'
          obtain ⟨pq, hw''⟩ := hw'
          subst hw''
          clear c0 d0
          have hend := Hid.intro (hP.out pq)
          have hA := Hid.intro (hno.out i x y hxH.out hyH.out hxy)
          go_wp2_with fail
          all_goals first | omega | skip
          go_ret
          exact ⟨by rw [hA.out]; rfl, hend.out⟩
        · have hc0 : ∀ p : BelowOf wr, p.wd.cell? ⟨g', o' + i, none⟩ = some (.string (str x)) := by rw [hxy]; exact d0
          clear d0
          go_wp2_with fail
          all_goals first | omega | skip
          refine wp_region_quiet_below (by kernel_rfl) (by kernel_rfl) ?_
          repeat (first | (with_reducible refine wpQuiet_skip (by with_unfolding_all rfl) ?_; simp only [Act.put, List.setIfInBounds_toArray, List.set_cons_zero, List.set_cons_succ]) | (with_reducible refine wpQuiet_step (fun K hK => ?_); go_simp; first | (with_reducible refine hK _ ?_; clear hK K) | (apply Exists.intro; refine ⟨fun p => ?_, hK _ ?_⟩; fail; clear hK K)))
          with_reducible refine wpQuiet_nil ?_
          intro _ hw'
          obtain ⟨pq, hw''⟩ := hw'
          subst hw''
          clear c0 hc0
          have hend := Hid.intro (hP.out pq)
          have hTT := Hid.intro (take_eq hT.out hxH.out (by rw [hxy]; exact hyH.out))
          go_wp2_with fail
          all_goals first | omega | skip
          go_roundw
          case rel => exact ⟨i + 1, by omega, by go_num, hend, hTT⟩
          case measure => simp [intOf]; omega
      · have hin : i = ni := by omega
        subst hin
        have hlt3 : ¬ ((i : Int) < (i : Int)) := by omega
        have hA := Hid.intro (hyes.out hT.out)
        go_wp2
        all_goals first | omega | skip
        go_ret
        exact ⟨by rw [hA.out]; rfl, hB.out⟩
set_option maxHeartbeats 4000000 in
theorem sameEqus_is (l m : List (List UInt8 × Lin)) (hm : l.length ≤ 1100000) (hm' : m.length ≤ 1100000) (ht : ∀ x ∈ l, x.2.terms.length ≤ 9000000) (ht' : ∀ x ∈ m, x.2.terms.length ≤ 9000000) (ai bi : Option Addr) (ci di : Nat) (w : World) (h1 : EqIn w ai l) (h2 : EqIn w bi m) :
    Calls Try.prog 18 #[.slice ai l.length ci, .slice bi m.length di] w fun e w' => e = .returned (.bool (sqB l m)) ∧ Below w.heap.size w w' := by
  by_cases hlen : l.length = m.length
  rotate_left
  · rw [sqB_neg (fun e => hlen (by rw [e]))]
    obtain ⟨n0, hn0⟩ : ∃ n0, n0 = l.length := ⟨_, rfl⟩
    obtain ⟨n1, hn1⟩ : ∃ n1, n1 = m.length := ⟨_, rfl⟩
    rw [← hn0, ← hn1] at hlen ⊢
    have hne : ((n0 : Int) == (n1 : Int)) = false := int_ne (by omega)
    have hne2 : ¬ (n0 = n1) := hlen
    clear hn0 hn1 h1 h2
    go_enter Try.func18, Try.ntmps18
    go_wp2
    all_goals first | omega | skip
    go_ret
    exact ⟨rfl, Below.refl _ _⟩
  · obtain ⟨ni, hn⟩ : ∃ ni, ni = l.length := ⟨_, rfl⟩
    rw [← hlen, ← hn]
    have hnm : ni ≤ 1100000 := by omega
    rw [← hn] at hlen
    replace hn := Hid.intro hn
    replace hlen := Hid.intro hlen
    have hyes : Hid (l.take ni = m.take ni → sqB l m = true) := fun h => sqB_pos (by rwa [List.take_of_length_le (by rw [hn.out]; exact Nat.le_refl _), List.take_of_length_le (by rw [hlen.out]; exact Nat.le_refl _)] at h)
    have hno : Hid (∀ i x y, l[i]? = some x → m[i]? = some y → x ≠ y → sqB l m = false) := fun i x y hx hy hne => sqB_neg (ne_at hx hy hne)
    generalize sqB l m = AA at *
    clear hm hm'
    replace h1 := Hid.intro h1
    replace h2 := Hid.intro h2
    go_enter Try.func18, Try.ntmps18
    go_wp2
    all_goals first | omega | skip
    go_loopw [5] (fun v5 wr => ∃ i : Nat, i ≤ ni ∧ v5 = .int .i64 (i : Int) ∧ Hid (Below w.heap.size w wr) ∧ Hid (l.take i = m.take i)) (fun v5 wr => ni - (intOf v5).toNat)
    case atStart => exact ⟨0, by omega, rfl, Hid.intro (Below.refl _ _), rfl⟩
    case round =>
      obtain ⟨i, hi, rfl, hB, hT⟩ := hrel
      by_cases hlt : i < ni
      · obtain ⟨x, hx⟩ : ∃ x, l[i]? = some x := ⟨l[i]'(by rw [← hn.out]; exact hlt), List.getElem?_eq_getElem _⟩
        obtain ⟨y, hy⟩ : ∃ y, m[i]? = some y := ⟨m[i]'(by rw [← hlen.out]; exact hlt), List.getElem?_eq_getElem _⟩
        have hP : Hid (∀ p : BelowOf wr, Below w.heap.size w p.wd) := fun p => hB.out.trans (p.h.mono hB.out.size)
        obtain ⟨g, o, hg, hgl, xa, xc, hI0, hI1, hI2, hTm⟩ := eqIn_at h1.out hx
        obtain ⟨g', o', hg', hgl', ya, yc, hJ0, hJ1, hJ2, hTn⟩ := eqIn_at h2.out hy
        subst hg
        subst hg'
        have h56 : Hid (∀ p : BelowOf wr, Calls Try.prog 11 #[linV (.slice xa x.2.terms.length xc) x.2.const, linV (.slice ya y.2.terms.length yc) y.2.const] p.wd fun e w' => e = .returned (.bool (sqB x.2 y.2)) ∧ Below p.wd.heap.size p.wd w') := fun p => by
          have := refSame_any xa ya xc yc x.2.terms y.2.terms x.2.const y.2.const p.wd (hTm.below (hP.out p) (Nat.le_refl _)) (hTn.below (hP.out p) (Nat.le_refl _)) (ht x (List.mem_of_getElem? hx)) (ht' y (List.mem_of_getElem? hy))
          rwa [linV_eq] at this
        have c0 : ∀ p : BelowOf wr, p.wd.cell? ⟨g, o + i * 3, none⟩ = some (.string (str x.1)) := fun p => ((hP.out p).cell (p := ⟨g, _, none⟩) hgl).trans hI0
        have c1 : ∀ p : BelowOf wr, p.wd.cell? ⟨g, o + i * 3 + 1, none⟩ = some (.slice xa x.2.terms.length xc) := fun p => ((hP.out p).cell (p := ⟨g, _, none⟩) hgl).trans hI1
        have c2 : ∀ p : BelowOf wr, p.wd.cell? ⟨g, o + i * 3 + 2, none⟩ = some (.int .u32 x.2.const) := fun p => ((hP.out p).cell (p := ⟨g, _, none⟩) hgl).trans hI2
        have d0 : ∀ p : BelowOf wr, p.wd.cell? ⟨g', o' + i * 3, none⟩ = some (.string (str y.1)) := fun p => ((hP.out p).cell (p := ⟨g', _, none⟩) hgl').trans hJ0
        have d1 : ∀ p : BelowOf wr, p.wd.cell? ⟨g', o' + i * 3 + 1, none⟩ = some (.slice ya y.2.terms.length yc) := fun p => ((hP.out p).cell (p := ⟨g', _, none⟩) hgl').trans hJ1
        have d2 : ∀ p : BelowOf wr, p.wd.cell? ⟨g', o' + i * 3 + 2, none⟩ = some (.int .u32 y.2.const) := fun p => ((hP.out p).cell (p := ⟨g', _, none⟩) hgl').trans hJ2
        generalize x.2.terms.length = xn at h56 c1
        generalize y.2.terms.length = yn at h56 d1
        clear hI0 hI1 hI2 hJ0 hJ1 hJ2 hTm hTn hgl hgl'
        have hxH := Hid.intro hx
        have hyH := Hid.intro hy
        have hlt2 : (i : Int) < (ni : Int) := by omega
        have i0 : (0 : Int) ≤ (i : Int) := by omega
        clear hx hy
        by_cases hx1 : x.1 = y.1
        rotate_left
        · have hf := str_ne hx1
          have hxy : x ≠ y := fun e => hx1 (by rw [e])
          go_wp2_with fail
          all_goals first | omega | skip
          refine wp_region_quiet_below (by kernel_rfl) (by kernel_rfl) ?_
          repeat (first | (with_reducible refine wpQuiet_skip (by with_unfolding_all rfl) ?_; simp only [Act.put, List.setIfInBounds_toArray, List.set_cons_zero, List.set_cons_succ]) | (with_reducible refine wpQuiet_step (fun K hK => ?_); go_simp; first | (with_reducible refine hK _ ?_; clear hK K) | (apply Exists.intro; refine ⟨fun p => ?_, hK _ ?_⟩; fail; clear hK K)))
          with_reducible refine wpQuiet_nil ?_
          intro _ hw'
          obtain ⟨pq, hw''⟩ := hw'
          subst hw''
          clear c0 c1 c2 d0 d1 d2
          have hend := Hid.intro (hP.out pq)
          have hA := Hid.intro (hno.out i x y hxH.out hyH.out hxy)
          go_wp2_with fail
          all_goals first | omega | skip
          go_ret
          exact ⟨by rw [hA.out]; rfl, hend.out⟩
        · by_cases hx2 : x.2 = y.2
          rotate_left
          · rw [sqB_neg hx2] at h56
            have hxy : x ≠ y := fun e => hx2 (by rw [e])
            have d0' : ∀ p : BelowOf wr, p.wd.cell? ⟨g', o' + i * 3, none⟩ = some (.string (str x.1)) := by rw [hx1]; exact d0
            clear d0
            go_wp2_with fail
            all_goals first | omega | skip
            refine wp_region_quiet_below (by kernel_rfl) (by kernel_rfl) ?_
            repeat (first | (with_reducible refine wpQuiet_skip (by with_unfolding_all rfl) ?_; simp only [Act.put, List.setIfInBounds_toArray, List.set_cons_zero, List.set_cons_succ]) | (with_reducible refine wpQuiet_step (fun K hK => ?_); go_simp; first | (with_reducible refine hK _ ?_; clear hK K) | (apply Exists.intro; refine ⟨fun p => ?_, hK _ ?_⟩; (go_at_call 11; with_reducible refine below_calls (h56.out p)); clear hK K)))
            with_reducible refine wpQuiet_nil ?_
            intro _ hw'
            obtain ⟨pq, hw''⟩ := hw'
            subst hw''
            clear c0 c1 c2 d0' d1 d2
            have hend := Hid.intro (hP.out pq)
            have hA := Hid.intro (hno.out i x y hxH.out hyH.out hxy)
            go_wp2_with fail
            all_goals first | omega | skip
            go_ret
            exact ⟨by rw [hA.out]; rfl, hend.out⟩
          · rw [sqB_pos hx2] at h56
            have hxy := Hid.intro (Prod.ext hx1 hx2 : x = y)
            have d0' : ∀ p : BelowOf wr, p.wd.cell? ⟨g', o' + i * 3, none⟩ = some (.string (str x.1)) := by rw [hx1]; exact d0
            clear d0 hx1 hx2
            go_wp2_with fail
            all_goals first | omega | skip
            refine wp_region_quiet_below (by kernel_rfl) (by kernel_rfl) ?_
            repeat (first | (with_reducible refine wpQuiet_skip (by with_unfolding_all rfl) ?_; simp only [Act.put, List.setIfInBounds_toArray, List.set_cons_zero, List.set_cons_succ]) | (with_reducible refine wpQuiet_step (fun K hK => ?_); go_simp; first | (with_reducible refine hK _ ?_; clear hK K) | (apply Exists.intro; refine ⟨fun p => ?_, hK _ ?_⟩; (go_at_call 11; with_reducible refine below_calls (h56.out p)); clear hK K)))
            with_reducible refine wpQuiet_nil ?_
            intro _ hw'
            obtain ⟨pq, hw''⟩ := hw'
            subst hw''
            clear c0 c1 c2 d0' d1 d2
            have hend := Hid.intro (hP.out pq)
            have hTT := Hid.intro (take_eq hT.out hxH.out (by rw [hxy.out]; exact hyH.out))
            go_wp2_with fail
            all_goals first | omega | skip
            go_roundw
            case rel => exact ⟨i + 1, by omega, by go_num, hend, hTT⟩
            case measure => simp [intOf]; omega
      · have hin : i = ni := by omega
        subst hin
        have hlt3 : ¬ ((i : Int) < (i : Int)) := by omega
        have hA := Hid.intro (hyes.out hT.out)
        go_wp2
        all_goals first | omega | skip
        go_ret
        exact ⟨by rw [hA.out]; rfl, hB.out⟩
end Go.Proofs.Ytebbbefknfldoaa
namespace Go.Proofs.Ytebbbefknfldoaa
set_option linter.unusedVariables false
set_option linter.unusedSimpArgs false
set_option maxRecDepth 100000
theorem findF_or (nm : List UInt8) : ∀ (l : List Eqv) (i : Int), (findF nm l i = -1 ∧ ∀ q ∈ l, q.1 ≠ nm) ∨ ∃ k, k < l.length ∧ findF nm l i = i + (k : Int) ∧ nmOf l k = nm
  | [], i => .inl ⟨rfl, fun q hq => by cases hq⟩
  | q :: l, i => by
    by_cases h : q.1 = nm
    · exact .inr ⟨0, by simp, by rw [findF, if_pos h]; simp, by simp [nmOf, h]⟩
    · rcases findF_or nm l (i + 1) with ⟨h1, h2⟩ | ⟨k, h1, h2, h3⟩
      · refine .inl ⟨by rw [findF, if_neg h, h1], fun p hp => ?_⟩
        rcases List.mem_cons.1 hp with rfl | hp
        · exact h
        · exact h2 p hp
      · refine .inr ⟨k + 1, by simp; omega, by rw [findF, if_neg h, h2]; omega, ?_⟩
        unfold nmOf at h3 ⊢
        simpa using h3
theorem findF_at {l : List Eqv} (hnd : (l.map (·.1)).Nodup) (nm : List UInt8) : findF nm l 0 = (atF l nm).getD (-1) := by
  cases ha : atF l nm with
  | none =>
    rcases findF_or nm l 0 with ⟨h1, _⟩ | ⟨k, h1, h2, h3⟩
    · rw [h1]; rfl
    · exact absurd h3 (backF_none l _ _ ha k (List.mem_range.2 h1))
  | some z =>
    obtain ⟨i, h1, h2, h3⟩ := atF_some ha
    rcases findF_or nm l 0 with ⟨h4, h5⟩ | ⟨k, h4, h5, h6⟩
    · have hq : l[i]? = some l[i] := List.getElem?_eq_getElem h1
      exact absurd ((nmOf_get hq).symm.trans h3) (h5 _ (List.mem_of_getElem? hq))
    · rw [h5, h2, nm_inj hnd h4 h1 (h6.trans h3.symm)]
      simp
def Met (adj : Nat → List Nat) (f t : Nat) : Prop := ∃ b ∈ adj f, Ta.Rch adj b t
structure MI (adj : Nat → List Nat) (n f t : Nat) (m : Nat → Nat) (ws : List Nat) : Prop where
  lt : ∀ k ∈ ws, k < n
  from_ : ∀ j, m j ≠ 0 → j < n ∧ Met adj f j
  work : ∀ k ∈ ws, k = f ∨ m k ≠ 0
  shut : ∀ k, (k = f ∨ m k ≠ 0) → k ∉ ws → ∀ j ∈ adj k, j ≠ t ∧ m j ≠ 0
theorem rch_snoc {adj : Nat → List Nat} {a b c : Nat} (h : Ta.Rch adj a b) (g : c ∈ adj b) : Ta.Rch adj a c := h.trans (.head g (.refl c))
theorem MI.start {adj : Nat → List Nat} {n f t : Nat} (hf : f < n) : MI adj n f t (fun _ => 0) [f] :=
  ⟨fun k hk => by rw [List.mem_singleton.1 hk]; exact hf, fun j hj => absurd rfl hj, fun k hk => .inl (List.mem_singleton.1 hk), fun k hk hn => by
    rcases hk with rfl | hk
    · exact absurd (List.mem_singleton.2 rfl) hn
    · exact absurd rfl hk⟩
theorem MI.no {adj : Nat → List Nat} {n f t : Nat} {m : Nat → Nat} (h : MI adj n f t m []) : ¬ Met adj f t := by
  rintro ⟨b, hb, hr⟩
  have h1 := h.shut f (.inl rfl) (by simp) b hb
  have h2 := Ta.Rch.stay (P := fun a => a ≠ t ∧ m a ≠ 0) (fun a ha c hc => h.shut a (.inr ha.2) (by simp) c hc) hr h1
  exact h2.1 rfl
structure MJ (adj : Nat → List Nat) (n f t k : Nat) (ds : List Nat) (m : Nat → Nat) (ws : List Nat) : Prop where
  kn : k < n
  ko : k = f ∨ m k ≠ 0
  lt : ∀ k ∈ ws, k < n
  from_ : ∀ j, m j ≠ 0 → j < n ∧ Met adj f j
  work : ∀ k ∈ ws, k = f ∨ m k ≠ 0
  shut : ∀ a, (a = f ∨ m a ≠ 0) → a ∉ ws → a ≠ k → ∀ j ∈ adj a, j ≠ t ∧ m j ≠ 0
  done : ∀ j ∈ ds, j ≠ t ∧ m j ≠ 0
theorem MI.pop {adj : Nat → List Nat} {n f t k : Nat} {m : Nat → Nat} {ws : List Nat} (h : MI adj n f t m (ws ++ [k])) : MJ adj n f t k [] m ws :=
  ⟨h.lt k (by simp), h.work k (by simp), fun a ha => h.lt a (by simp [ha]), h.from_, fun a ha => h.work a (by simp [ha]), fun a ha hn hk => h.shut a ha (by simp [hn, hk]), fun j hj => by cases hj⟩
theorem MJ.met {adj : Nat → List Nat} {n f t k : Nat} {ds : List Nat} {m : Nat → Nat} {ws : List Nat} (h : MJ adj n f t k ds m ws) (hj : t ∈ adj k) : Met adj f t := by
  rcases h.ko with rfl | hk
  · exact ⟨t, hj, .refl t⟩
  · obtain ⟨_, b, hb, hr⟩ := h.from_ k hk
    exact ⟨b, hb, rch_snoc hr hj⟩
theorem MJ.seen {adj : Nat → List Nat} {n f t k j : Nat} {ds : List Nat} {m : Nat → Nat} {ws : List Nat} (h : MJ adj n f t k ds m ws) (hj : j ≠ t) (hm : m j ≠ 0) : MJ adj n f t k (ds ++ [j]) m ws :=
  ⟨h.kn, h.ko, h.lt, h.from_, h.work, h.shut, fun a ha => by
    rcases List.mem_append.1 ha with ha | ha
    · exact h.done a ha
    · rw [List.mem_singleton.1 ha]; exact ⟨hj, hm⟩⟩
theorem upd_ne {m : Nat → Nat} {j a : Nat} (h : m a ≠ 0) : Ta.upd m j 1 a ≠ 0 := by
  unfold Ta.upd
  split
  · omega
  · exact h
theorem upd_or {m : Nat → Nat} {j a : Nat} (h : Ta.upd m j 1 a ≠ 0) : a = j ∨ m a ≠ 0 := by
  unfold Ta.upd at h
  split at h
  · exact .inl ‹_›
  · exact .inr h
theorem MJ.push {adj : Nat → List Nat} {n f t k j : Nat} {ds : List Nat} {m : Nat → Nat} {ws : List Nat} (h : MJ adj n f t k ds m ws) (hj : j ≠ t) (hn : j < n) (ha : j ∈ adj k) : MJ adj n f t k (ds ++ [j]) (Ta.upd m j 1) (ws ++ [j]) := by
  have hmet : Met adj f j := by
    rcases h.ko with rfl | hk
    · exact ⟨j, ha, .refl j⟩
    · obtain ⟨_, b, hb, hr⟩ := h.from_ k hk
      exact ⟨b, hb, rch_snoc hr ha⟩
  refine ⟨h.kn, h.ko.imp id upd_ne, fun a hm => ?_, fun a hm => ?_, fun a hm => ?_, fun a hm hw hk b hb => ?_, fun a hm => ?_⟩
  · rcases List.mem_append.1 hm with hm | hm
    · exact h.lt a hm
    · rw [List.mem_singleton.1 hm]; exact hn
  · rcases upd_or hm with rfl | hm
    · exact ⟨hn, hmet⟩
    · exact h.from_ a hm
  · rcases List.mem_append.1 hm with hm | hm
    · exact (h.work a hm).imp id upd_ne
    · rw [List.mem_singleton.1 hm]; exact .inr (by simp [Ta.upd])
  · have hw2 : a ∉ ws := fun h => hw (List.mem_append_left _ h)
    have haj : a ≠ j := fun e => hw (by rw [e]; simp)
    have hm2 : a = f ∨ m a ≠ 0 := by
      rcases hm with hm | hm
      · exact .inl hm
      · rcases upd_or hm with e | hm
        · exact absurd e haj
        · exact .inr hm
    have := h.shut a hm2 hw2 hk b hb
    exact ⟨this.1, upd_ne this.2⟩
  · rcases List.mem_append.1 hm with hm | hm
    · exact ⟨(h.done a hm).1, upd_ne (h.done a hm).2⟩
    · rw [List.mem_singleton.1 hm]; exact ⟨hj, by simp [Ta.upd]⟩
theorem MJ.out {adj : Nat → List Nat} {n f t k : Nat} {ds : List Nat} {m : Nat → Nat} {ws : List Nat} (h : MJ adj n f t k ds m ws) (hd : ∀ j ∈ adj k, j ∈ ds) : MI adj n f t m ws :=
  ⟨h.lt, h.from_, h.work, fun a ha hn j hj => by
    by_cases hk : a = k
    · subst hk; exact h.done j (hd j hj)
    · exact h.shut a ha hn hk j hj⟩
theorem left_push {n : Nat} {m : Nat → Nat} {j : Nat} (hj : j < n) (h0 : m j = 0) : Ta.left n (Ta.upd m j 1) < Ta.left n m :=
  Ta.left_lt (fun v hv => upd_ne hv) hj h0 (by simp [Ta.upd])
end Go.Proofs.Ytebbbefknfldoaa
