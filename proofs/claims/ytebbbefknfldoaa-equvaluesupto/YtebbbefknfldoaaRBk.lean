/- The document's Back, walked. -/
import Derived.Test.YtebbbefknfldoaaConcat
import Derived.Deep.QuietTactic
import Derived.BigQuiet
import Derived.WalkSmall
import Derived.WalkSpells
import Derived.Test.YtebbbefknfldoaaWk1
import Derived.Lib.Strings
import Derived.Deep.DeepCutAuto
import Derived.Test.YtebbbefknfldoaaMtM
/- slices.Equal at terms; expr.Same and the document's. -/
namespace Go.Proofs.Ytebbbefknfldoaa
open Go.ChangeShapes Go.WideShapes Go.ChangeAt Go.RowKit
set_option linter.unusedVariables false
set_option maxRecDepth 100000
theorem tm_ne {t u : Tm} (h : t ≠ u) : (t.name ≠ u.name) ∨ (t.name = u.name ∧ t.coef ≠ u.coef) := by
  by_cases hn : t.name = u.name
  · refine .inr ⟨hn, fun hc => h ?_⟩
    cases t; cases u; simp_all
  · exact .inl hn
theorem list_ne {α : Type} {xs ys : List α} {k : Nat} {t u : α} (h1 : xs[k]? = some t) (h2 : ys[k]? = some u) (h : t ≠ u) : xs ≠ ys := by
  intro e
  subst e
  rw [h1] at h2
  cases h2
  exact h rfl
theorem list_eq {α : Type} {xs ys : List α} (hl : xs.length = ys.length) (h : xs.take xs.length = ys.take xs.length) : xs = ys := by
  rw [List.take_length, hl, List.take_length] at h
  exact h
theorem below_drewN {B : Nat} {a w : World} (h : Below B a w) (n : Nat) : Below B a (w.drewN n) := ⟨h.os, h.tape, h.output, h.size, h.block⟩
def sameL (xs ys : List Tm) (k1 k2 : Int) : Bool := decide (k1 = k2) && decide (xs = ys)
set_option maxHeartbeats 1000000 in
theorem refSame_any (a1 a2 : Option Addr) (c1 c2 : Nat) (xs ys : List Tm) (k1 k2 : Int) (w : World) (h1 : TmLies w a1 xs) (h2 : TmLies w a2 ys) (hm : xs.length ≤ 9000000) (hm2 : ys.length ≤ 9000000) :
    Calls Try.prog 11 #[linV (.slice a1 xs.length c1) k1, linV (.slice a2 ys.length c2) k2] w fun e w' => e = .returned (.bool (sameL xs ys k1 k2)) ∧ Below w.heap.size w w' := by
  have hb0 := fun o1 o2 => ((below_alloc w o1).alloc (by simp) o2)
  obtain ⟨n0, hn0⟩ : ∃ n0, n0 = xs.length := ⟨_, rfl⟩
  obtain ⟨n1, hn1⟩ : ∃ n1, n1 = ys.length := ⟨_, rfl⟩
  obtain ⟨bv, hbv⟩ : ∃ bv, bv = sameL xs ys k1 k2 := ⟨_, rfl⟩
  rw [← hn0, ← hn1, ← hbv]
  rw [← hn0] at hm
  rw [← hn1] at hm2
  have hnH := Hid.intro hn0
  have hn1H := Hid.intro hn1
  by_cases hk : k1 = k2
  · have hk' : (k1 != k2) = false := by simp [hk]
    have hbH : Hid (bv = decide (xs = ys)) := by show bv = _; rw [hbv, sameL, hk]; simp
    clear hbv hk
    by_cases hl : n0 = n1
    · subst hl
      have t1 := (two_new w 29 (.slice a1 n0 c1) (.int .u32 k1)).alloc (.cells #[.slice a2 n0 c2, .int .u32 k2] 29)
      have t2 := two_new (w.alloc (.cells #[.slice a1 n0 c1, .int .u32 k1] 29)) 29 (.slice a2 n0 c2) (.int .u32 k2)
      have hbb := hb0 (.cells #[.slice a1 n0 c1, .int .u32 k1] 29) (.cells #[.slice a2 n0 c2, .int .u32 k2] 29)
      simp only [World.size_alloc] at t2
      clear hn0 hn1 hb0
      go_enter Try.func11, Try.ntmps11
      go_wp2
      all_goals first | omega | skip
      have h1' := Hid.intro (h1.below hbb (Nat.le_refl _))
      have h2' := Hid.intro (h2.below hbb (Nat.le_refl _))
      clear h1 h2
      generalize ((w.alloc (.cells #[.slice a1 n0 c1, .int .u32 k1] 29)).alloc (.cells #[.slice a2 n0 c2, .int .u32 k2] 29)) = w0 at *
      obtain ⟨_, x0, x1, _, _⟩ := t1
      obtain ⟨_, y0, y1, _, _⟩ := t2
      go_loopw [5] (fun i wr => ∃ k n : Nat, k ≤ n0 ∧ i = .int .i64 k ∧ wr = w0.drewN n ∧ Hid (xs.take k = ys.take k)) (fun i _ => n0 - (intOf i).toNat)
      case atStart => exact ⟨0, 0, Nat.zero_le _, rfl, rfl, rfl⟩
      case round =>
        obtain ⟨k, n, hk, rfl, rfl, heq⟩ := hrel
        have x0' : (w0.drewN n).cell? ⟨w.heap.size, 0, none⟩ = some (.slice a1 n0 c1) := x0
        have y0' : (w0.drewN n).cell? ⟨w.heap.size + 1, 0, none⟩ = some (.slice a2 n0 c2) := y0
        by_cases hlt : k < n0
        · obtain ⟨t, ht⟩ : ∃ t, xs[k]? = some t := ⟨xs[k]'(by rw [← hnH.out]; exact hlt), List.getElem?_eq_getElem _⟩
          obtain ⟨u, hu⟩ : ∃ u, ys[k]? = some u := ⟨ys[k]'(by rw [← hn1H.out]; exact hlt), List.getElem?_eq_getElem _⟩
          rcases h1'.out with hx | ⟨g1, o1, rfl, _, hc1⟩
          · rw [hx] at ht; simp at ht
          rcases h2'.out with hx | ⟨g2, o2, rfl, _, hc2⟩
          · rw [hx] at hu; simp at hu
          obtain ⟨q0, q1⟩ := hc1 k t ht
          obtain ⟨p0, p1⟩ := hc2 k u hu
          clear hc1 hc2
          by_cases htu : t = u
          · subst htu
            have hnext : Hid (xs.take (k + 1) = ys.take (k + 1)) := by
              show _ = _
              rw [take_at xs k t ht, take_at ys k t hu, heq.out]
            clear ht hu
            go_wp2
            go_quiet (fail)
            go_wp2
            all_goals first
              | omega
              | skip
            go_roundw
            case rel => exact ⟨k + 1, n + nq, by omega, by go_num, by simp, hnext⟩
            case measure => simp [intOf]; omega
          · have hf : bv = false := by rw [hbH.out]; exact decide_eq_false (list_ne ht hu htu)
            subst hf
            clear ht hu
            rcases tm_ne htu with hne | ⟨hne, hce⟩
            · have e1 : ((str t.name).toList == (str u.name).toList) = false := by rw [str_toList, str_toList]; simp [hne]
              clear htu hne
              go_wp2
              go_quiet (fail)
              go_wp2
              all_goals first
                | omega
                | skip
              go_ret
              exact ⟨rfl, below_drewN (below_drewN hbb _) _⟩
            · have e1 : ((str t.name).toList == (str u.name).toList) = true := by rw [hne]; simp
              have e2 : (t.coef == u.coef) = false := by simp [hce]
              clear htu hne hce
              go_wp2
              go_quiet (fail)
              go_wp2
              all_goals first
                | omega
                | skip
              go_ret
              exact ⟨rfl, below_drewN (below_drewN hbb _) _⟩
        · have ht : bv = true := by
            rw [hbH.out]
            have e : k = xs.length := by rw [← hnH.out]; omega
            exact decide_eq_true (list_eq (by rw [← hnH.out, hn1H.out]) (by have := heq.out; rwa [e] at this))
          subst ht
          go_wp2
          all_goals first
            | omega
            | skip
          go_ret
          exact ⟨rfl, below_drewN hbb _⟩
    · have hne : xs ≠ ys := fun e => hl (by rw [hn0, hn1, e])
      have hf : bv = false := by rw [hbH.out]; exact decide_eq_false hne
      subst hf
      have hne2 : ((n0 : Int) != (n1 : Int)) = true := by simp; omega
      clear hne hl hn0 hn1
      go_enter Try.func11, Try.ntmps11
      go_wp2
      all_goals first
        | omega
        | skip
      go_ret
      exact ⟨rfl, hb0 _ _⟩
  · have hk' : (k1 != k2) = true := by simp [hk]
    have hf : bv = false := by rw [hbv, sameL]; simp [hk]
    subst hf
    clear hbv hk hn0 hn1
    go_enter Try.func11, Try.ntmps11
    go_wp2
    go_ret
    exact ⟨rfl, hb0 _ _⟩
end Go.Proofs.Ytebbbefknfldoaa
/- A region that draws its order, whose operations only read, and whose callees leave what was there as it was: walked once. -/
namespace Go.Proofs.Ytebbbefknfldoaa
open Go.ChangeShapes Go.WideShapes Go.ChangeAt Go.RowKit
set_option linter.unusedVariables false
set_option maxRecDepth 100000
structure BelowOf (w : World) where
  wd : World
  h : Below w.heap.size w wd
instance {w : World} : Inhabited (BelowOf w) := ⟨⟨w, Below.refl _ _⟩⟩
theorem BelowOf.cell {w : World} (p : BelowOf w) {a : Addr} {v : Value} (ha : a.block < w.heap.size) (h : w.cell? a = some v) : p.wd.cell? a = some v := by rw [p.h.cell ha]; exact h
theorem wp_region_quiet_below {P : Program} {id : Nat} {Q : Exit → Act → World → Prop} {a : Act} {w : World} {l : List Oper} (hm : P.follows .mixedOrders = true) (hB : Region.lexB .any l.toArray = true)
    (h : wpQuiet P l.toArray (fun w' => ∃ p : BelowOf w, w' = p.wd) (fun a' => ∀ w', (∃ p : BelowOf w, w' = p.wd) → Q .normal a' w') l a) : (Code.region id l.toArray true).wp P Q a w :=
  wp_region_quiet (C := fun w' => ∃ p : BelowOf w, w' = p.wd) hm hB ⟨⟨w.drew, (Below.refl _ _).drew⟩, rfl⟩ (by simpa using h)
theorem wpQuiet_skip {P : Program} {ops : Array Oper} {C : World → Prop} {Q : Act → Prop} {a : Act} {o : Oper} {rest : List Oper} (h : Region.wanted o (yielded ops a.tmps) = false) (k : wpQuiet P ops C Q rest (a.put o.dst undef)) : wpQuiet P ops C Q (o :: rest) a := by
  unfold wpQuiet
  rw [if_neg (by rw [h]; decide)]
  exact k
theorem below_calls {P : Program} {f : FuncId} {args : Array Value} {w : World} {p : BelowOf w} {v : Value}
    (h : Calls P f args p.wd fun e w' => e = .returned v ∧ Below p.wd.heap.size p.wd w') : Calls P f args p.wd fun e w'' => e = .returned v ∧ ∃ p' : BelowOf w, w'' = p'.wd :=
  h.mono fun _ w' ⟨he, hb⟩ => ⟨he, ⟨w', p.h.trans (hb.mono p.h.size)⟩, rfl⟩
end Go.Proofs.Ytebbbefknfldoaa
/- spandrelbook's Same of texts, spandrelkeep's SameEqus, of any two. -/
namespace Go.Proofs.Ytebbbefknfldoaa
open Go.ChangeShapes Go.WideShapes Go.ChangeAt Go.RowKit Go.Sort
set_option linter.unusedVariables false
set_option linter.unusedSimpArgs false
set_option maxRecDepth 100000
def StIn (w : World) (a : Option Addr) (l : List (List UInt8)) : Prop := l = [] ∨ ∃ g o, a = some ⟨g, o, none⟩ ∧ g < w.heap.size ∧ ∀ (i : Nat) (s : List UInt8), l[i]? = some s → w.cell? ⟨g, o + i, none⟩ = some (.string (str s))
theorem eqIn_at {w : World} {a : Option Addr} {l : List (List UInt8 × Lin)} (h : EqIn w a l) {i : Nat} {q : List UInt8 × Lin} (hi : l[i]? = some q) : ∃ g o, a = some ⟨g, o, none⟩ ∧ g < w.heap.size ∧ ∃ va vc, w.cell? ⟨g, o + i * 3, none⟩ = some (.string (str q.1)) ∧ w.cell? ⟨g, o + i * 3 + 1, none⟩ = some (.slice va q.2.terms.length vc) ∧ w.cell? ⟨g, o + i * 3 + 2, none⟩ = some (.int .u32 q.2.const) ∧ TmLies w va q.2.terms := by
  rcases h with h | ⟨g, o, h1, h2, h3⟩
  · subst h; cases hi
  · obtain ⟨va, vc, k1, k2, k3, k4⟩ := h3 i q hi
    exact ⟨g, o, h1, h2, va, vc, k1, k2, k3, k4⟩
theorem str_ne {s t : List UInt8} (h : s ≠ t) : ((str s).toList == (str t).toList) = false := by
  rw [Lib.toList_data, Lib.toList_data]
  simp only [beq_eq_false_iff_ne, ne_eq, str]
  intro he
  exact h (by simpa using he)
noncomputable def sqB {α : Type} (x y : α) : Bool := @decide (x = y) (Classical.propDecidable _)
theorem sqB_pos {α : Type} {x y : α} (h : x = y) : sqB x y = true := by unfold sqB; exact @decide_eq_true _ (Classical.propDecidable _) h
theorem sqB_neg {α : Type} {x y : α} (h : x ≠ y) : sqB x y = false := by unfold sqB; exact @decide_eq_false _ (Classical.propDecidable _) h
theorem int_ne {a b : Int} (h : a ≠ b) : (a == b) = false := by simpa using h
set_option maxHeartbeats 1000000 in
theorem take_eq {α : Type} {l m : List α} {i : Nat} {x : α} (h : l.take i = m.take i) (hx : l[i]? = some x) (hy : m[i]? = some x) : l.take (i + 1) = m.take (i + 1) := by rw [List.take_add_one, List.take_add_one, h, hx, hy]
theorem ne_at {α : Type} {l m : List α} {i : Nat} {x y : α} (hx : l[i]? = some x) (hy : m[i]? = some y) (h : x ≠ y) : l ≠ m := fun e => by
  subst e
  rw [hx] at hy
  cases hy
  exact h rfl
theorem linV_eq {x y : Lin} : sameL x.terms y.terms x.const y.const = sqB x y := by
  unfold sameL
  by_cases h : x = y
  · rw [sqB_pos h, h]; simp
  · rw [sqB_neg h]
    by_cases h1 : x.const = y.const
    · have : x.terms ≠ y.terms := fun e => h (by cases x; cases y; simp_all)
      simp [h1, this]
    · simp [h1]
set_option maxHeartbeats 4000000 in
theorem sameEqus_is (l m : List (List UInt8 × Lin)) (hm : l.length ≤ 1100000) (hm' : m.length ≤ 1100000) (ht : ∀ x ∈ l, x.2.terms.length ≤ 9000000) (ht' : ∀ x ∈ m, x.2.terms.length ≤ 9000000) (ai bi : Option Addr) (ci di : Nat) (w : World) (h1 : EqIn w ai l) (h2 : EqIn w bi m) :
    Calls Try.prog 18 #[.slice ai l.length ci, .slice bi m.length di] w fun e w' => e = .returned (.bool (sqB l m)) ∧ Below w.heap.size w w' := by
  by_cases hlen : l.length = m.length
  rotate_left
  · rw [sqB_neg (fun e => hlen (by rw [e]))]
    obtain ⟨n0, hn0⟩ : ∃ n0, n0 = l.length := ⟨_, rfl⟩
    obtain ⟨n1, hn1⟩ : ∃ n1, n1 = m.length := ⟨_, rfl⟩
    rw [← hn0, ← hn1] at hlen ⊢
    have hne : ((n0 : Int) == (n1 : Int)) = false := int_ne (by omega)
    have hne2 : ¬ (n0 = n1) := hlen
    clear hn0 hn1 h1 h2
    go_enter Try.func18, Try.ntmps18
    go_wp2
    all_goals first | omega | skip
    go_ret
    exact ⟨rfl, Below.refl _ _⟩
  · obtain ⟨ni, hn⟩ : ∃ ni, ni = l.length := ⟨_, rfl⟩
    rw [← hlen, ← hn]
    have hnm : ni ≤ 1100000 := by omega
    rw [← hn] at hlen
    replace hn := Hid.intro hn
    replace hlen := Hid.intro hlen
    have hyes : Hid (l.take ni = m.take ni → sqB l m = true) := fun h => sqB_pos (by rwa [List.take_of_length_le (by rw [hn.out]; exact Nat.le_refl _), List.take_of_length_le (by rw [hlen.out]; exact Nat.le_refl _)] at h)
    have hno : Hid (∀ i x y, l[i]? = some x → m[i]? = some y → x ≠ y → sqB l m = false) := fun i x y hx hy hne => sqB_neg (ne_at hx hy hne)
    generalize sqB l m = AA at *
    clear hm hm'
    replace h1 := Hid.intro h1
    replace h2 := Hid.intro h2
    go_enter Try.func18, Try.ntmps18
    go_wp2
    all_goals first | omega | skip
    go_loopw [5] (fun v5 wr => ∃ i : Nat, i ≤ ni ∧ v5 = .int .i64 (i : Int) ∧ Hid (Below w.heap.size w wr) ∧ Hid (l.take i = m.take i)) (fun v5 wr => ni - (intOf v5).toNat)
    case atStart => exact ⟨0, by omega, rfl, Hid.intro (Below.refl _ _), rfl⟩
    case round =>
      obtain ⟨i, hi, rfl, hB, hT⟩ := hrel
      by_cases hlt : i < ni
      · obtain ⟨x, hx⟩ : ∃ x, l[i]? = some x := ⟨l[i]'(by rw [← hn.out]; exact hlt), List.getElem?_eq_getElem _⟩
        obtain ⟨y, hy⟩ : ∃ y, m[i]? = some y := ⟨m[i]'(by rw [← hlen.out]; exact hlt), List.getElem?_eq_getElem _⟩
        have hP : Hid (∀ p : BelowOf wr, Below w.heap.size w p.wd) := fun p => hB.out.trans (p.h.mono hB.out.size)
        obtain ⟨g, o, hg, hgl, xa, xc, hI0, hI1, hI2, hTm⟩ := eqIn_at h1.out hx
        obtain ⟨g', o', hg', hgl', ya, yc, hJ0, hJ1, hJ2, hTn⟩ := eqIn_at h2.out hy
        subst hg
        subst hg'
        have h56 : Hid (∀ p : BelowOf wr, Calls Try.prog 11 #[linV (.slice xa x.2.terms.length xc) x.2.const, linV (.slice ya y.2.terms.length yc) y.2.const] p.wd fun e w' => e = .returned (.bool (sqB x.2 y.2)) ∧ Below p.wd.heap.size p.wd w') := fun p => by
          have := refSame_any xa ya xc yc x.2.terms y.2.terms x.2.const y.2.const p.wd (hTm.below (hP.out p) (Nat.le_refl _)) (hTn.below (hP.out p) (Nat.le_refl _)) (ht x (List.mem_of_getElem? hx)) (ht' y (List.mem_of_getElem? hy))
          rwa [linV_eq] at this
        have c0 : ∀ p : BelowOf wr, p.wd.cell? ⟨g, o + i * 3, none⟩ = some (.string (str x.1)) := fun p => ((hP.out p).cell (p := ⟨g, _, none⟩) hgl).trans hI0
        have c1 : ∀ p : BelowOf wr, p.wd.cell? ⟨g, o + i * 3 + 1, none⟩ = some (.slice xa x.2.terms.length xc) := fun p => ((hP.out p).cell (p := ⟨g, _, none⟩) hgl).trans hI1
        have c2 : ∀ p : BelowOf wr, p.wd.cell? ⟨g, o + i * 3 + 2, none⟩ = some (.int .u32 x.2.const) := fun p => ((hP.out p).cell (p := ⟨g, _, none⟩) hgl).trans hI2
        have d0 : ∀ p : BelowOf wr, p.wd.cell? ⟨g', o' + i * 3, none⟩ = some (.string (str y.1)) := fun p => ((hP.out p).cell (p := ⟨g', _, none⟩) hgl').trans hJ0
        have d1 : ∀ p : BelowOf wr, p.wd.cell? ⟨g', o' + i * 3 + 1, none⟩ = some (.slice ya y.2.terms.length yc) := fun p => ((hP.out p).cell (p := ⟨g', _, none⟩) hgl').trans hJ1
        have d2 : ∀ p : BelowOf wr, p.wd.cell? ⟨g', o' + i * 3 + 2, none⟩ = some (.int .u32 y.2.const) := fun p => ((hP.out p).cell (p := ⟨g', _, none⟩) hgl').trans hJ2
        generalize x.2.terms.length = xn at h56 c1
        generalize y.2.terms.length = yn at h56 d1
        clear hI0 hI1 hI2 hJ0 hJ1 hJ2 hTm hTn hgl hgl'
        have hxH := Hid.intro hx
        have hyH := Hid.intro hy
        have hlt2 : (i : Int) < (ni : Int) := by omega
        have i0 : (0 : Int) ≤ (i : Int) := by omega
        clear hx hy
        by_cases hx1 : x.1 = y.1
        rotate_left
        · have hf := str_ne hx1
          have hxy : x ≠ y := fun e => hx1 (by rw [e])
          go_wp2_with fail
          all_goals first | omega | skip
          refine wp_region_quiet_below (by kernel_rfl) (by kernel_rfl) ?_
          repeat (first | (with_reducible refine wpQuiet_skip (by with_unfolding_all rfl) ?_; simp only [Act.put, List.setIfInBounds_toArray, List.set_cons_zero, List.set_cons_succ]) | (with_reducible refine wpQuiet_step (fun K hK => ?_); go_simp; first | (with_reducible refine hK _ ?_; clear hK K) | (apply Exists.intro; refine ⟨fun p => ?_, hK _ ?_⟩; fail; clear hK K)))
          with_reducible refine wpQuiet_nil ?_
          intro _ hw'
          obtain ⟨pq, hw''⟩ := hw'
          subst hw''
          clear c0 c1 c2 d0 d1 d2
          have hend := Hid.intro (hP.out pq)
          have hA := Hid.intro (hno.out i x y hxH.out hyH.out hxy)
          go_wp2_with fail
          all_goals first | omega | skip
          go_ret
          exact ⟨by rw [hA.out]; rfl, hend.out⟩
        · by_cases hx2 : x.2 = y.2
          rotate_left
          · rw [sqB_neg hx2] at h56
            have hxy : x ≠ y := fun e => hx2 (by rw [e])
            have d0' : ∀ p : BelowOf wr, p.wd.cell? ⟨g', o' + i * 3, none⟩ = some (.string (str x.1)) := by rw [hx1]; exact d0
            clear d0
            go_wp2_with fail
            all_goals first | omega | skip
            refine wp_region_quiet_below (by kernel_rfl) (by kernel_rfl) ?_
            repeat (first | (with_reducible refine wpQuiet_skip (by with_unfolding_all rfl) ?_; simp only [Act.put, List.setIfInBounds_toArray, List.set_cons_zero, List.set_cons_succ]) | (with_reducible refine wpQuiet_step (fun K hK => ?_); go_simp; first | (with_reducible refine hK _ ?_; clear hK K) | (apply Exists.intro; refine ⟨fun p => ?_, hK _ ?_⟩; (go_at_call 11; with_reducible refine below_calls (h56.out p)); clear hK K)))
            with_reducible refine wpQuiet_nil ?_
            intro _ hw'
            obtain ⟨pq, hw''⟩ := hw'
            subst hw''
            clear c0 c1 c2 d0' d1 d2
            have hend := Hid.intro (hP.out pq)
            have hA := Hid.intro (hno.out i x y hxH.out hyH.out hxy)
            go_wp2_with fail
            all_goals first | omega | skip
            go_ret
            exact ⟨by rw [hA.out]; rfl, hend.out⟩
          · rw [sqB_pos hx2] at h56
            have hxy := Hid.intro (Prod.ext hx1 hx2 : x = y)
            have d0' : ∀ p : BelowOf wr, p.wd.cell? ⟨g', o' + i * 3, none⟩ = some (.string (str x.1)) := by rw [hx1]; exact d0
            clear d0 hx1 hx2
            go_wp2_with fail
            all_goals first | omega | skip
            refine wp_region_quiet_below (by kernel_rfl) (by kernel_rfl) ?_
            repeat (first | (with_reducible refine wpQuiet_skip (by with_unfolding_all rfl) ?_; simp only [Act.put, List.setIfInBounds_toArray, List.set_cons_zero, List.set_cons_succ]) | (with_reducible refine wpQuiet_step (fun K hK => ?_); go_simp; first | (with_reducible refine hK _ ?_; clear hK K) | (apply Exists.intro; refine ⟨fun p => ?_, hK _ ?_⟩; (go_at_call 11; with_reducible refine below_calls (h56.out p)); clear hK K)))
            with_reducible refine wpQuiet_nil ?_
            intro _ hw'
            obtain ⟨pq, hw''⟩ := hw'
            subst hw''
            clear c0 c1 c2 d0' d1 d2
            have hend := Hid.intro (hP.out pq)
            have hTT := Hid.intro (take_eq hT.out hxH.out (by rw [hxy.out]; exact hyH.out))
            go_wp2_with fail
            all_goals first | omega | skip
            go_roundw
            case rel => exact ⟨i + 1, by omega, by go_num, hend, hTT⟩
            case measure => simp [intOf]; omega
      · have hin : i = ni := by omega
        subst hin
        have hlt3 : ¬ ((i : Int) < (i : Int)) := by omega
        have hA := Hid.intro (hyes.out hT.out)
        go_wp2
        all_goals first | omega | skip
        go_ret
        exact ⟨by rw [hA.out]; rfl, hB.out⟩
end Go.Proofs.Ytebbbefknfldoaa
/- The document's met, walked. -/
namespace Go.Proofs.Ytebbbefknfldoaa
open Go.ChangeShapes Go.WideShapes Go.ChangeAt Go.RowKit
set_option linter.unusedVariables false
set_option linter.unusedSimpArgs false
set_option maxRecDepth 100000
def boolR (n : Nat) (m : Nat → Nat) : Array Value := ((List.range n).map fun i => Value.bool (m i != 0)).toArray
theorem boolR_get (n : Nat) (m : Nat → Nat) (i : Nat) (hi : i < n) : (boolR n m)[i]? = some (.bool (m i != 0)) := by simp [boolR, hi]
theorem boolR_set (n : Nat) (m : Nat → Nat) (i : Nat) (hi : i < n) : (boolR n m).setIfInBounds i (.bool true) = boolR n (Ta.upd m i 1) := by
  unfold boolR
  rw [List.setIfInBounds_toArray]
  congr 1
  apply List.ext_getElem?
  intro j
  rw [List.getElem?_set, List.getElem?_map, List.getElem?_map]
  by_cases hj : i = j
  · subst hj
    simp [hi, Ta.upd]
  · rw [if_neg hj]
    by_cases hj2 : j < n
    · simp [hj2, Ta.upd, Ne.symm hj]
    · rw [List.getElem?_eq_none (by simp; omega)]
      rfl
structure MM (w wr : World) (n : Nat) (m : Nat → Nat) (ws : List Nat) (aw : Option Addr) (cw : Nat) : Prop where
  bel : Below w.heap.size w wr
  seen : wr.heap[w.heap.size]? = some (.cells (boolR n m) 4 (0, 0))
  row : wr.ownsRow w.heap.size 3 1 (.slice aw ws.length cw) ws.length (rowN ws)
open Classical in
noncomputable def leftW (n gs : Nat) (wr : World) : Nat := Ta.left n fun j => if wr.cell? ⟨gs, j, none⟩ = some (.bool true) then 1 else 0
theorem MM.left {w wr : World} {n : Nat} {m : Nat → Nat} {ws : List Nat} {aw : Option Addr} {cw : Nat} (h : MM w wr n m ws aw cw) : leftW n w.heap.size wr = Ta.left n m := by
  unfold leftW Ta.left
  congr 1
  refine List.filter_congr fun j hj => ?_
  have hj := List.mem_range.1 hj
  dsimp only
  rw [cell_of_row wr w.heap.size j _ 4 (0, 0) h.seen, boolR_get n m j hj]
  by_cases h0 : m j = 0 <;> simp [h0]
theorem MM.pop {w wr : World} {n k : Nat} {m : Nat → Nat} {ws : List Nat} {aw : Option Addr} {cw : Nat} (h : MM w wr n m (ws ++ [k]) aw cw) : MM w wr n m ws aw cw := by
  have h1 := own_cut h.row ws.length (by simp) (by simp)
  rw [show (rowN (ws ++ [k])).take ws.length = rowN ws by unfold rowN; simp] at h1
  exact ⟨h.bel, h.seen, h1⟩
theorem MM.push {w wr w2 : World} {n j : Nat} {m : Nat → Nat} {ws : List Nat} {aw a2 : Option Addr} {cw c2 : Nat} (h : MM w wr n m ws aw cw) (hj : j < n)
    (ho : w2.ownsRow w.heap.size 3 1 (.slice a2 (ws.length + 1) c2) (ws.length + 1) (rowN ws ++ [.int .i64 (j : Int)])) (hg : ((wr.setCell ⟨w.heap.size, j, none⟩ (.bool true)).alloc (.cells #[.int .i64 (j : Int)] 3)).grownBy w2 (Value.slice aw ws.length cw).ownBlock) :
    MM w w2 n (Ta.upd m j 1) (ws ++ [j]) a2 c2 := by
  obtain ⟨s1, k1⟩ := row_set h.seen j (.bool true)
  rw [boolR_set n m j hj] at s1
  have hlt := wblk_lt h.seen
  have hb1 : Below w.heap.size w (wr.setCell ⟨w.heap.size, j, none⟩ (.bool true)) := h.bel.setCell (p := ⟨w.heap.size, j, none⟩) (Nat.le_refl _) _
  have hb2 : Below w.heap.size w ((wr.setCell ⟨w.heap.size, j, none⟩ (.bool true)).alloc (.cells #[.int .i64 (j : Int)] 3)) := hb1.alloc hb1.size _
  have hne : (Value.slice aw ws.length cw).ownBlock ≠ some w.heap.size := fun e => by
    obtain ⟨cur, hc⟩ := own_type h.row e
    rw [h.seen] at hc
    cases hc
  refine ⟨hb2.grown hg hb2.size (fun g e => (h.row.lt g e).1), ?_, ?_⟩
  · rw [hg.block _ (by simp; omega) (fun e => hne e.symm), Below.heap_alloc _ _ _ (by simp; omega)]
    exact s1
  · rw [List.length_append, List.length_singleton]
    have : rowN (ws ++ [j]) = rowN ws ++ [.int .i64 (j : Int)] := by simp [rowN]
    rw [this]
    exact ho
end Go.Proofs.Ytebbbefknfldoaa
namespace Go.Proofs.Ytebbbefknfldoaa
open Go.ChangeShapes Go.WideShapes Go.ChangeAt Go.RowKit
set_option linter.unusedVariables false
set_option linter.unusedSimpArgs false
set_option maxRecDepth 100000
theorem own_keptR {w w' : World} {B : Nat} {e : TypeId} {size : Nat} {v : Value} {n : Nat} {xs : List Value} (h : w.ownsRow B e size v n xs) (hb : Below w.heap.size w w') : w'.ownsRow B e size v n xs := by
  refine ⟨h.1, ?_⟩
  rcases h.2 with h | ⟨g, cap, cu, h1, hB, hh, hr⟩
  · exact .inl h
  · exact .inr ⟨g, cap, cu, h1, hB, (hb.block g (wblk_lt hh)).trans hh, hr⟩
end Go.Proofs.Ytebbbefknfldoaa
