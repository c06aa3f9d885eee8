/- The law's right: equs that are right, each name once. -/
import Derived.Test.YtebbbefknfldoaaAp1
import Derived.Test.YtebbbefknfldoaaRight
import Derived.Lib.Strings
import Derived.BigQuiet
import Derived.Deep.DeepCutAuto
import Derived.Test.YtebbbefknfldoaaRefRight
import Derived.Test.YtebbbefknfldoaaWk4
/- spandrelbook's Same of texts, spandrelkeep's SameEqus, of any two. -/
namespace Go.Proofs.Ytebbbefknfldoaa
open Go.ChangeShapes Go.WideShapes Go.ChangeAt Go.RowKit Go.Sort
set_option linter.unusedVariables false
set_option linter.unusedSimpArgs false
set_option maxRecDepth 100000
def StIn (w : World) (a : Option Addr) (l : List (List UInt8)) : Prop := l = [] ∨ ∃ g o, a = some ⟨g, o, none⟩ ∧ g < w.heap.size ∧ ∀ (i : Nat) (s : List UInt8), l[i]? = some s → w.cell? ⟨g, o + i, none⟩ = some (.string (str s))
theorem eqIn_at {w : World} {a : Option Addr} {l : List (List UInt8 × Lin)} (h : EqIn w a l) {i : Nat} {q : List UInt8 × Lin} (hi : l[i]? = some q) : ∃ g o, a = some ⟨g, o, none⟩ ∧ g < w.heap.size ∧ ∃ va vc, w.cell? ⟨g, o + i * 3, none⟩ = some (.string (str q.1)) ∧ w.cell? ⟨g, o + i * 3 + 1, none⟩ = some (.slice va q.2.terms.length vc) ∧ w.cell? ⟨g, o + i * 3 + 2, none⟩ = some (.int .u32 q.2.const) ∧ TmLies w va q.2.terms := by
  rcases h with h | ⟨g, o, h1, h2, h3⟩
  · subst h; cases hi
  · obtain ⟨va, vc, k1, k2, k3, k4⟩ := h3 i q hi
    exact ⟨g, o, h1, h2, va, vc, k1, k2, k3, k4⟩
theorem str_ne {s t : List UInt8} (h : s ≠ t) : ((str s).toList == (str t).toList) = false := by
  rw [Lib.toList_data, Lib.toList_data]
  simp only [beq_eq_false_iff_ne, ne_eq, str]
  intro he
  exact h (by simpa using he)
noncomputable def sqB {α : Type} (x y : α) : Bool := @decide (x = y) (Classical.propDecidable _)
theorem sqB_pos {α : Type} {x y : α} (h : x = y) : sqB x y = true := by unfold sqB; exact @decide_eq_true _ (Classical.propDecidable _) h
theorem sqB_neg {α : Type} {x y : α} (h : x ≠ y) : sqB x y = false := by unfold sqB; exact @decide_eq_false _ (Classical.propDecidable _) h
theorem int_ne {a b : Int} (h : a ≠ b) : (a == b) = false := by simpa using h
set_option maxHeartbeats 1000000 in
theorem take_eq {α : Type} {l m : List α} {i : Nat} {x : α} (h : l.take i = m.take i) (hx : l[i]? = some x) (hy : m[i]? = some x) : l.take (i + 1) = m.take (i + 1) := by rw [List.take_add_one, List.take_add_one, h, hx, hy]
theorem ne_at {α : Type} {l m : List α} {i : Nat} {x y : α} (hx : l[i]? = some x) (hy : m[i]? = some y) (h : x ≠ y) : l ≠ m := fun e => by
  subst e
  rw [hx] at hy
  cases hy
  exact h rfl
theorem linV_eq {x y : Lin} : sameL x.terms y.terms x.const y.const = sqB x y := by
  unfold sameL
  by_cases h : x = y
  · rw [sqB_pos h, h]; simp
  · rw [sqB_neg h]
    by_cases h1 : x.const = y.const
    · have : x.terms ≠ y.terms := fun e => h (by cases x; cases y; simp_all)
      simp [h1, this]
    · simp [h1]
set_option maxHeartbeats 4000000 in
theorem sameEqus_is (l m : List (List UInt8 × Lin)) (hm : l.length ≤ 1100000) (hm' : m.length ≤ 1100000) (ht : ∀ x ∈ l, x.2.terms.length ≤ 9000000) (ht' : ∀ x ∈ m, x.2.terms.length ≤ 9000000) (ai bi : Option Addr) (ci di : Nat) (w : World) (h1 : EqIn w ai l) (h2 : EqIn w bi m) :
    Calls Try.prog 18 #[.slice ai l.length ci, .slice bi m.length di] w fun e w' => e = .returned (.bool (sqB l m)) ∧ Below w.heap.size w w' := by
  by_cases hlen : l.length = m.length
  rotate_left
  · rw [sqB_neg (fun e => hlen (by rw [e]))]
    obtain ⟨n0, hn0⟩ : ∃ n0, n0 = l.length := ⟨_, rfl⟩
    obtain ⟨n1, hn1⟩ : ∃ n1, n1 = m.length := ⟨_, rfl⟩
    rw [← hn0, ← hn1] at hlen ⊢
    have hne : ((n0 : Int) == (n1 : Int)) = false := int_ne (by omega)
    have hne2 : ¬ (n0 = n1) := hlen
    clear hn0 hn1 h1 h2
    go_enter Try.func18, Try.ntmps18
    go_wp2
    all_goals first | omega | skip
    go_ret
    exact ⟨rfl, Below.refl _ _⟩
  · obtain ⟨ni, hn⟩ : ∃ ni, ni = l.length := ⟨_, rfl⟩
    rw [← hlen, ← hn]
    have hnm : ni ≤ 1100000 := by omega
    rw [← hn] at hlen
    replace hn := Hid.intro hn
    replace hlen := Hid.intro hlen
    have hyes : Hid (l.take ni = m.take ni → sqB l m = true) := fun h => sqB_pos (by rwa [List.take_of_length_le (by rw [hn.out]; exact Nat.le_refl _), List.take_of_length_le (by rw [hlen.out]; exact Nat.le_refl _)] at h)
    have hno : Hid (∀ i x y, l[i]? = some x → m[i]? = some y → x ≠ y → sqB l m = false) := fun i x y hx hy hne => sqB_neg (ne_at hx hy hne)
    generalize sqB l m = AA at *
    clear hm hm'
    replace h1 := Hid.intro h1
    replace h2 := Hid.intro h2
    go_enter Try.func18, Try.ntmps18
    go_wp2
    all_goals first | omega | skip
    go_loopw [5] (fun v5 wr => ∃ i : Nat, i ≤ ni ∧ v5 = .int .i64 (i : Int) ∧ Hid (Below w.heap.size w wr) ∧ Hid (l.take i = m.take i)) (fun v5 wr => ni - (intOf v5).toNat)
    case atStart => exact ⟨0, by omega, rfl, Hid.intro (Below.refl _ _), rfl⟩
    case round =>
      obtain ⟨i, hi, rfl, hB, hT⟩ := hrel
      by_cases hlt : i < ni
      · obtain ⟨x, hx⟩ : ∃ x, l[i]? = some x := ⟨l[i]'(by rw [← hn.out]; exact hlt), List.getElem?_eq_getElem _⟩
        obtain ⟨y, hy⟩ : ∃ y, m[i]? = some y := ⟨m[i]'(by rw [← hlen.out]; exact hlt), List.getElem?_eq_getElem _⟩
        have hP : Hid (∀ p : BelowOf wr, Below w.heap.size w p.wd) := fun p => hB.out.trans (p.h.mono hB.out.size)
        obtain ⟨g, o, hg, hgl, xa, xc, hI0, hI1, hI2, hTm⟩ := eqIn_at h1.out hx
        obtain ⟨g', o', hg', hgl', ya, yc, hJ0, hJ1, hJ2, hTn⟩ := eqIn_at h2.out hy
        subst hg
        subst hg'
        have h56 : Hid (∀ p : BelowOf wr, Calls Try.prog 11 #[linV (.slice xa x.2.terms.length xc) x.2.const, linV (.slice ya y.2.terms.length yc) y.2.const] p.wd fun e w' => e = .returned (.bool (sqB x.2 y.2)) ∧ Below p.wd.heap.size p.wd w') := fun p => by
          have := refSame_any xa ya xc yc x.2.terms y.2.terms x.2.const y.2.const p.wd (hTm.below (hP.out p) (Nat.le_refl _)) (hTn.below (hP.out p) (Nat.le_refl _)) (ht x (List.mem_of_getElem? hx)) (ht' y (List.mem_of_getElem? hy))
          rwa [linV_eq] at this
        have c0 : ∀ p : BelowOf wr, p.wd.cell? ⟨g, o + i * 3, none⟩ = some (.string (str x.1)) := fun p => ((hP.out p).cell (p := ⟨g, _, none⟩) hgl).trans hI0
        have c1 : ∀ p : BelowOf wr, p.wd.cell? ⟨g, o + i * 3 + 1, none⟩ = some (.slice xa x.2.terms.length xc) := fun p => ((hP.out p).cell (p := ⟨g, _, none⟩) hgl).trans hI1
        have c2 : ∀ p : BelowOf wr, p.wd.cell? ⟨g, o + i * 3 + 2, none⟩ = some (.int .u32 x.2.const) := fun p => ((hP.out p).cell (p := ⟨g, _, none⟩) hgl).trans hI2
        have d0 : ∀ p : BelowOf wr, p.wd.cell? ⟨g', o' + i * 3, none⟩ = some (.string (str y.1)) := fun p => ((hP.out p).cell (p := ⟨g', _, none⟩) hgl').trans hJ0
        have d1 : ∀ p : BelowOf wr, p.wd.cell? ⟨g', o' + i * 3 + 1, none⟩ = some (.slice ya y.2.terms.length yc) := fun p => ((hP.out p).cell (p := ⟨g', _, none⟩) hgl').trans hJ1
        have d2 : ∀ p : BelowOf wr, p.wd.cell? ⟨g', o' + i * 3 + 2, none⟩ = some (.int .u32 y.2.const) := fun p => ((hP.out p).cell (p := ⟨g', _, none⟩) hgl').trans hJ2
        generalize x.2.terms.length = xn at h56 c1
        generalize y.2.terms.length = yn at h56 d1
        clear hI0 hI1 hI2 hJ0 hJ1 hJ2 hTm hTn hgl hgl'
        have hxH := Hid.intro hx
        have hyH := Hid.intro hy
        have hlt2 : (i : Int) < (ni : Int) := by omega
        have i0 : (0 : Int) ≤ (i : Int) := by omega
        clear hx hy
        by_cases hx1 : x.1 = y.1
        rotate_left
        · have hf := str_ne hx1
          have hxy : x ≠ y := fun e => hx1 (by rw [e])
          go_wp2_with fail
          all_goals first | omega | skip
          refine wp_region_quiet_below (by kernel_rfl) (by kernel_rfl) ?_
          repeat (first | (with_reducible refine wpQuiet_skip (by with_unfolding_all rfl) ?_; simp only [Act.put, List.setIfInBounds_toArray, List.set_cons_zero, List.set_cons_succ]) | (with_reducible refine wpQuiet_step (fun K hK => ?_); go_simp; first | (with_reducible refine hK _ ?_; clear hK K) | (apply Exists.intro; refine ⟨fun p => ?_, hK _ ?_⟩; fail; clear hK K)))
          with_reducible refine wpQuiet_nil ?_
          intro _ hw'
          obtain ⟨pq, hw''⟩ := hw'
          subst hw''
          clear c0 c1 c2 d0 d1 d2
          have hend := Hid.intro (hP.out pq)
          have hA := Hid.intro (hno.out i x y hxH.out hyH.out hxy)
          go_wp2_with fail
          all_goals first | omega | skip
          go_ret
          exact ⟨by rw [hA.out]; rfl, hend.out⟩
        · by_cases hx2 : x.2 = y.2
          rotate_left
          · rw [sqB_neg hx2] at h56
            have hxy : x ≠ y := fun e => hx2 (by rw [e])
            have d0' : ∀ p : BelowOf wr, p.wd.cell? ⟨g', o' + i * 3, none⟩ = some (.string (str x.1)) := by rw [hx1]; exact d0
            clear d0
            go_wp2_with fail
            all_goals first | omega | skip
            refine wp_region_quiet_below (by kernel_rfl) (by kernel_rfl) ?_
            repeat (first | (with_reducible refine wpQuiet_skip (by with_unfolding_all rfl) ?_; simp only [Act.put, List.setIfInBounds_toArray, List.set_cons_zero, List.set_cons_succ]) | (with_reducible refine wpQuiet_step (fun K hK => ?_); go_simp; first | (with_reducible refine hK _ ?_; clear hK K) | (apply Exists.intro; refine ⟨fun p => ?_, hK _ ?_⟩; (go_at_call 11; with_reducible refine below_calls (h56.out p)); clear hK K)))
            with_reducible refine wpQuiet_nil ?_
            intro _ hw'
            obtain ⟨pq, hw''⟩ := hw'
            subst hw''
            clear c0 c1 c2 d0' d1 d2
            have hend := Hid.intro (hP.out pq)
            have hA := Hid.intro (hno.out i x y hxH.out hyH.out hxy)
            go_wp2_with fail
            all_goals first | omega | skip
            go_ret
            exact ⟨by rw [hA.out]; rfl, hend.out⟩
          · rw [sqB_pos hx2] at h56
            have hxy := Hid.intro (Prod.ext hx1 hx2 : x = y)
            have d0' : ∀ p : BelowOf wr, p.wd.cell? ⟨g', o' + i * 3, none⟩ = some (.string (str x.1)) := by rw [hx1]; exact d0
            clear d0 hx1 hx2
            go_wp2_with fail
            all_goals first | omega | skip
            refine wp_region_quiet_below (by kernel_rfl) (by kernel_rfl) ?_
            repeat (first | (with_reducible refine wpQuiet_skip (by with_unfolding_all rfl) ?_; simp only [Act.put, List.setIfInBounds_toArray, List.set_cons_zero, List.set_cons_succ]) | (with_reducible refine wpQuiet_step (fun K hK => ?_); go_simp; first | (with_reducible refine hK _ ?_; clear hK K) | (apply Exists.intro; refine ⟨fun p => ?_, hK _ ?_⟩; (go_at_call 11; with_reducible refine below_calls (h56.out p)); clear hK K)))
            with_reducible refine wpQuiet_nil ?_
            intro _ hw'
            obtain ⟨pq, hw''⟩ := hw'
            subst hw''
            clear c0 c1 c2 d0' d1 d2
            have hend := Hid.intro (hP.out pq)
            have hTT := Hid.intro (take_eq hT.out hxH.out (by rw [hxy.out]; exact hyH.out))
            go_wp2_with fail
            all_goals first | omega | skip
            go_roundw
            case rel => exact ⟨i + 1, by omega, by go_num, hend, hTT⟩
            case measure => simp [intOf]; omega
      · have hin : i = ni := by omega
        subst hin
        have hlt3 : ¬ ((i : Int) < (i : Int)) := by omega
        have hA := Hid.intro (hyes.out hT.out)
        go_wp2
        all_goals first | omega | skip
        go_ret
        exact ⟨by rw [hA.out]; rfl, hB.out⟩
end Go.Proofs.Ytebbbefknfldoaa
namespace Go.Proofs.Ytebbbefknfldoaa
open Go.ChangeShapes Go.WideShapes Go.ChangeAt Go.RowKit
set_option linter.unusedVariables false
set_option linter.unusedSimpArgs false
set_option maxRecDepth 100000
theorem right_tail {p : Option (List UInt8)} {t : Tm} {r : List Tm} (h : rightF p (t :: r) = true) : t.coef ≠ 0 ∧ legB (str t.name) = true ∧ (∀ q, p = some q → nlt q t.name = true) ∧ rightF (some t.name) r = true := by
  simp only [rightF, okT, Bool.and_eq_true, decide_eq_true_eq] at h
  refine ⟨h.1.1, h.1.2.1, fun q hq => ?_, h.2⟩
  subst hq
  exact h.1.2.2
theorem right_rise {ts : List Tm} : ∀ {q : List UInt8}, rightF (some q) ts = true → ∀ t ∈ ts, nlt q t.name = true := by
  induction ts with
  | nil => intro q h t ht; cases ht
  | cons x r ih =>
    intro q h t ht
    obtain ⟨_, _, h3, h4⟩ := right_tail h
    rcases List.mem_cons.1 ht with rfl | ht
    · exact h3 q rfl
    · exact nlt_trans (h3 q rfl) (ih h4 t ht)
theorem right_canon {ts : List Tm} (hc : ∀ t ∈ ts, 0 ≤ t.coef ∧ t.coef < 4294967296) : ∀ {p : Option (List UInt8)}, rightF p ts = true → Canon ts := by
  induction ts with
  | nil => intro p h; exact Canon.nil
  | cons x r ih =>
    intro p h
    obtain ⟨h1, _, _, h4⟩ := right_tail h
    have hr := ih (fun t ht => hc t (by simp [ht])) h4
    refine ⟨List.pairwise_cons.2 ⟨right_rise h4, hr.rise⟩, fun t ht => ?_⟩
    rcases List.mem_cons.1 ht with rfl | ht
    · have := hc t (by simp)
      omega
    · exact hr.some t ht
def RightP (l : List Eqv) : Prop := l.length ≤ 60 ∧ (∀ q ∈ l, legB (str q.1) = true ∧ rightF none q.2.terms = true) ∧ (l.map (·.1)).Nodup
noncomputable def rightB (l : List Eqv) : Bool := @decide (RightP l) (Classical.propDecidable _)
theorem rightB_pos {l : List Eqv} (h : RightP l) : rightB l = true := by unfold rightB; exact @decide_eq_true _ (Classical.propDecidable _) h
theorem rightB_neg {l : List Eqv} (h : ¬ RightP l) : rightB l = false := by unfold rightB; exact @decide_eq_false _ (Classical.propDecidable _) h
theorem below_drewR {B : Nat} {a w : World} (h : Below B a w) (n : Nat) : Below B a (w.drewN n) := ⟨h.os, h.tape, h.output, h.size, h.block⟩
set_option maxHeartbeats 16000000 in
theorem right11_any (l : List Eqv) (la : Option Addr) (lc : Nat) (hl : l.length ≤ 4400000) (hh : ∀ q ∈ l, q.1.length ≤ 1100000 ∧ q.2.terms.length ≤ 9000000 ∧ ∀ t ∈ q.2.terms, t.name.length ≤ 1100000) (w : World) (hE : EqIn w la l) :
    Calls Try.prog 15 #[.slice la l.length lc] w fun e w' => e = .returned (.bool (rightB l)) ∧ Below w.heap.size w w' := by
  obtain ⟨n0, hn0⟩ : ∃ n0, n0 = l.length := ⟨_, rfl⟩
  have hH := Hid.intro hn0
  rw [← hn0] at hl ⊢
  have hEH := Hid.intro hE
  have hhH := Hid.intro hh
  obtain ⟨AA, hAA⟩ : ∃ AA, AA = rightB l := ⟨_, rfl⟩
  rw [← hAA]
  have hA := Hid.intro hAA
  clear hE hh hn0 hAA
  by_cases hbig : (60 : Int) < (n0 : Int)
  · have hf : AA = false := by rw [hA.out]; exact rightB_neg fun h => by have := h.1; rw [← hH.out] at this; omega
    subst hf
    go_enter Try.func15, Try.ntmps15
    go_wp2
    all_goals first | omega | skip
    go_ret
    exact ⟨rfl, Below.refl _ _⟩
  · have hl60 : n0 ≤ 60 := by omega
    have hyes : Hid ((∀ q ∈ l.take n0, legB (str q.1) = true ∧ rightF none q.2.terms = true) → ((l.take n0).map (·.1)).Nodup → AA = true) := fun h1 h2 => by
      rw [hH.out, List.take_length] at h1 h2
      rw [hA.out]
      exact rightB_pos ⟨by rw [← hH.out]; exact hl60, h1, h2⟩
    have hno : Hid (∀ (i : Nat) (q : Eqv), l[i]? = some q → ¬ (legB (str q.1) = true ∧ rightF none q.2.terms = true) → AA = false) := fun i q hq h => by
      rw [hA.out]
      exact rightB_neg fun hr => h (hr.2.1 q (List.mem_of_getElem? hq))
    have hdup : Hid (∀ (i j : Nat), j < i → i < l.length → nmOf l j = nmOf l i → AA = false) := fun i j hji hi e => by
      rw [hA.out]
      exact rightB_neg fun hr => by have := nm_inj hr.2.2 (by omega) hi e; omega
    go_enter Try.func15, Try.ntmps15
    go_wp2
    all_goals first | omega | skip
    go_loopw [3] (fun v3 wr => ∃ i : Nat, i ≤ n0 ∧ v3 = .int .i64 (i : Int) ∧ Hid (Below w.heap.size w wr) ∧ Hid (∀ q ∈ l.take i, legB (str q.1) = true ∧ rightF none q.2.terms = true) ∧ Hid (((l.take i).map (·.1)).Nodup)) (fun v3 _ => n0 - (intOf v3).toNat)
    case atStart => exact ⟨0, by omega, by first | rfl | go_num, Below.refl _ _, (fun q hq => by cases hq), by show (([] : List Eqv).map _).Nodup; simp⟩
    case round =>
      obtain ⟨i, hi, rfl, hB, hR, hN⟩ := hrel
      by_cases hin : i < n0
      · have hil : i < l.length := by rw [← hH.out]; exact hin
        have hq : l[i]? = some l[i] := List.getElem?_eq_getElem hil
        obtain ⟨q, hqe⟩ : ∃ q, q = l[i] := ⟨_, rfl⟩
        rw [← hqe] at hq
        obtain ⟨gl, ol, rfl, hgl, va, vc, k0, k1, k2, k3⟩ := eqIn_at hEH.out hq
        have q0 := (hB.out.cell (p := ⟨gl, ol + i * 3, none⟩) hgl).trans k0
        have q1 := (hB.out.cell (p := ⟨gl, ol + i * 3 + 1, none⟩) hgl).trans k1
        have q2 := (hB.out.cell (p := ⟨gl, ol + i * 3 + 2, none⟩) hgl).trans k2
        obtain ⟨hh1, hh2, hh3⟩ := hhH.out q (List.mem_of_getElem? hq)
        have h32 := Hid.intro (fun W => refLegal_any (str q.1) (by simp [str, ByteArray.size]; omega) W)
        have h16 := Hid.intro (refRight_any va vc q.2.terms q.2.const wr (k3.below hB.out (Nat.le_refl _)) hh2 hh3)
        have hqH := Hid.intro hq
        obtain ⟨tl, htl⟩ : ∃ tl, tl = q.2.terms.length := ⟨_, rfl⟩
        rw [← htl] at h16 q1
        clear hqe k0 k1 k2 k3 htl hh1 hh2 hh3
        cases hleg : legB (str q.1) with
        | false =>
          have hf := hno.out i q hq (fun h => by rw [hleg] at h; cases h.1)
          subst hf
          rw [hleg] at h32
          clear hleg hq
          go_wp2_with (go_at_call 32; (with_reducible refine (h32.out _).mono ?_); rintro e w2 ⟨rfl, rfl⟩)
          all_goals first | omega | skip
          go_ret
          exact ⟨rfl, hB.out⟩
        | true =>
          rw [hleg] at h32
          cases hrt : rightF none q.2.terms with
          | false =>
            have hf := hno.out i q hq (fun h => by rw [hrt] at h; cases h.2)
            subst hf
            rw [hrt] at h16
            clear hleg hrt hq
            go_wp2_with (first | (go_at_call 32; (with_reducible refine (h32.out _).mono ?_); rintro e w2 ⟨rfl, rfl⟩) | (go_at_call 16; (with_reducible refine (h16.out).mono ?_); rintro e w2 ⟨rfl, hb2⟩; have hB2 := Hid.intro (hB.out.trans (hb2.mono hB.out.size)); clear hb2))
            all_goals first | omega | skip
            go_ret
            exact ⟨rfl, hB2.out⟩
          | true =>
            have hR2 : Hid (∀ p ∈ l.take (i + 1), legB (str p.1) = true ∧ rightF none p.2.terms = true) := fun p hp => by
              rw [List.take_add_one, hq] at hp
              rcases List.mem_append.1 hp with hp | hp
              · exact hR.out p hp
              · have : p = q := by simpa using hp
                rw [this]; exact ⟨hleg, hrt⟩
            rw [hrt] at h16
            clear hleg hrt hq
            go_wp2_with (first | (go_at_call 32; (with_reducible refine (h32.out _).mono ?_); rintro e w2 ⟨rfl, rfl⟩) | (go_at_call 16; (with_reducible refine (h16.out).mono ?_); rintro e w2 ⟨rfl, hb2⟩; have hB2 := Hid.intro (hB.out.trans (hb2.mono hB.out.size)); clear hb2))
            all_goals first | omega | skip
            clear h32 h16 q0 q1 q2 hB
            go_loopw [4] (fun v4 wr => ∃ j : Nat, j ≤ i ∧ v4 = .int .i64 (j : Int) ∧ Hid (Below w.heap.size w wr) ∧ Hid (∀ k, k < j → nmOf l k ≠ nmOf l i)) (fun v4 _ => i - (intOf v4).toNat)
            case atStart => exact ⟨0, by omega, by first | rfl | go_num, hB2, fun k hk => by omega⟩
            case round =>
              obtain ⟨j, hj, rfl, hB3, hne⟩ := hrel
              by_cases hji : j < i
              · have hjl : j < l.length := by omega
                have hqj : l[j]? = some l[j] := List.getElem?_eq_getElem hjl
                obtain ⟨p, hpe⟩ : ∃ p, p = l[j] := ⟨_, rfl⟩
                rw [← hpe] at hqj
                have d0 : wr.cell? ⟨gl, ol + j * 3, none⟩ = some (.string (str p.1)) := by
                  obtain ⟨gl', ol', e, hgl', va', vc', k0, _⟩ := eqIn_at hEH.out hqj
                  cases e
                  exact (hB3.out.cell (p := ⟨gl, ol + j * 3, none⟩) hgl').trans k0
                have d1 : wr.cell? ⟨gl, ol + i * 3, none⟩ = some (.string (str q.1)) := by
                  obtain ⟨gl', ol', e, hgl', va', vc', k0, _⟩ := eqIn_at hEH.out hqH.out
                  cases e
                  exact (hB3.out.cell (p := ⟨gl, ol + i * 3, none⟩) hgl').trans k0
                have hbe := str_beq p.1 q.1
                have hp1 := nmOf_get hqj
                have hq1 := nmOf_get hqH.out
                by_cases hpq : p.1 = q.1
                · have hf := hdup.out i j hji hil (by rw [hp1, hq1, hpq])
                  subst hf
                  rw [decide_eq_true hpq] at hbe
                  clear hpe hqj hp1 hq1 hpq hjl
                  go_wp2_with fail
                  all_goals first | omega | skip
                  go_quiet (fail)
                  go_wp2_with fail
                  all_goals first | omega | skip
                  go_ret
                  exact ⟨rfl, below_drewR hB3.out _⟩
                · rw [decide_eq_false hpq] at hbe
                  have hne2 : Hid (∀ k, k < j + 1 → nmOf l k ≠ nmOf l i) := fun k hk => by
                    by_cases hkj : k = j
                    · rw [hkj, hp1, hq1]; exact hpq
                    · exact hne.out k (by omega)
                  have hB4 := Hid.intro (fun n => below_drewR hB3.out n)
                  clear hpe hqj hp1 hq1 hpq hjl hB3 hne
                  go_wp2_with fail
                  all_goals first | omega | skip
                  go_quiet (fail)
                  go_wp2_with fail
                  all_goals first | omega | skip
                  go_roundw
                  case rel => exact ⟨j + 1, by omega, by go_num, hB4.out _, hne2⟩
                  case measure => simp [intOf]; omega
              · obtain rfl : j = i := by omega
                have hN2 : Hid (((l.take (j + 1)).map (·.1)).Nodup) := by
                  show List.Nodup _
                  rw [List.take_add_one, hqH.out]
                  show (List.map _ (l.take j ++ [q])).Nodup
                  rw [List.map_append]
                  refine List.nodup_append.2 ⟨hN.out, by simp, fun a ha b hb e => ?_⟩
                  have hb' : b = q.1 := by simpa using hb
                  obtain ⟨p, hp, hpa⟩ := List.mem_map.1 ha
                  obtain ⟨k, hk, hke⟩ := List.getElem_of_mem hp
                  rw [List.length_take] at hk
                  rw [List.getElem_take] at hke
                  refine hne.out k (by omega) ?_
                  rw [nmOf_get (List.getElem?_eq_getElem (show k < l.length by omega)), nmOf_get hqH.out, hke, hpa, e, hb']
                clear hN hne hR hyes hno hdup
                go_wp2_with fail
                all_goals first | omega | skip
                go_roundw
                case rel => exact ⟨j + 1, by omega, by go_num, hB3, hR2, hN2⟩
                case measure => simp [intOf]; omega
      · obtain rfl : i = n0 := by omega
        have ht := hyes.out hR.out hN.out
        subst ht
        clear hyes hno hdup hR hN
        go_wp2_with fail
        all_goals first | omega | skip
        go_ret
        exact ⟨rfl, hB.out⟩
end Go.Proofs.Ytebbbefknfldoaa
