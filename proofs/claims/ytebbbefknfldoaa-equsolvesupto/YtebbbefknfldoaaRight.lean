/- expr.Right. -/
import Derived.Test.YtebbbefknfldoaaConcat
import Derived.Deep.QuietTactic
import Derived.BigQuiet
import Derived.WalkSmall
import Derived.WalkSpells
import Derived.Test.YtebbbefknfldoaaLinM
import Derived.Laws.Cover1
/- slices.Equal at terms; expr.Same and the document's. -/
namespace Go.Proofs.Ytebbbefknfldoaa
open Go.ChangeShapes Go.WideShapes Go.ChangeAt Go.RowKit
set_option linter.unusedVariables false
set_option maxRecDepth 100000
theorem tm_ne {t u : Tm} (h : t ≠ u) : (t.name ≠ u.name) ∨ (t.name = u.name ∧ t.coef ≠ u.coef) := by
  by_cases hn : t.name = u.name
  · refine .inr ⟨hn, fun hc => h ?_⟩
    cases t; cases u; simp_all
  · exact .inl hn
theorem list_ne {α : Type} {xs ys : List α} {k : Nat} {t u : α} (h1 : xs[k]? = some t) (h2 : ys[k]? = some u) (h : t ≠ u) : xs ≠ ys := by
  intro e
  subst e
  rw [h1] at h2
  cases h2
  exact h rfl
theorem list_eq {α : Type} {xs ys : List α} (hl : xs.length = ys.length) (h : xs.take xs.length = ys.take xs.length) : xs = ys := by
  rw [List.take_length, hl, List.take_length] at h
  exact h
theorem below_drewN {B : Nat} {a w : World} (h : Below B a w) (n : Nat) : Below B a (w.drewN n) := ⟨h.os, h.tape, h.output, h.size, h.block⟩
def sameL (xs ys : List Tm) (k1 k2 : Int) : Bool := decide (k1 = k2) && decide (xs = ys)
set_option maxHeartbeats 1000000 in
theorem refSame_any (a1 a2 : Option Addr) (c1 c2 : Nat) (xs ys : List Tm) (k1 k2 : Int) (w : World) (h1 : TmLies w a1 xs) (h2 : TmLies w a2 ys) (hm : xs.length ≤ 9000000) (hm2 : ys.length ≤ 9000000) :
    Calls Try.prog 11 #[linV (.slice a1 xs.length c1) k1, linV (.slice a2 ys.length c2) k2] w fun e w' => e = .returned (.bool (sameL xs ys k1 k2)) ∧ Below w.heap.size w w' := by
  have hb0 := fun o1 o2 => ((below_alloc w o1).alloc (by simp) o2)
  obtain ⟨n0, hn0⟩ : ∃ n0, n0 = xs.length := ⟨_, rfl⟩
  obtain ⟨n1, hn1⟩ : ∃ n1, n1 = ys.length := ⟨_, rfl⟩
  obtain ⟨bv, hbv⟩ : ∃ bv, bv = sameL xs ys k1 k2 := ⟨_, rfl⟩
  rw [← hn0, ← hn1, ← hbv]
  rw [← hn0] at hm
  rw [← hn1] at hm2
  have hnH := Hid.intro hn0
  have hn1H := Hid.intro hn1
  by_cases hk : k1 = k2
  · have hk' : (k1 != k2) = false := by simp [hk]
    have hbH : Hid (bv = decide (xs = ys)) := by show bv = _; rw [hbv, sameL, hk]; simp
    clear hbv hk
    by_cases hl : n0 = n1
    · subst hl
      have t1 := (two_new w 29 (.slice a1 n0 c1) (.int .u32 k1)).alloc (.cells #[.slice a2 n0 c2, .int .u32 k2] 29)
      have t2 := two_new (w.alloc (.cells #[.slice a1 n0 c1, .int .u32 k1] 29)) 29 (.slice a2 n0 c2) (.int .u32 k2)
      have hbb := hb0 (.cells #[.slice a1 n0 c1, .int .u32 k1] 29) (.cells #[.slice a2 n0 c2, .int .u32 k2] 29)
      simp only [World.size_alloc] at t2
      clear hn0 hn1 hb0
      go_enter Try.func11, Try.ntmps11
      go_wp2
      all_goals first | omega | skip
      have h1' := Hid.intro (h1.below hbb (Nat.le_refl _))
      have h2' := Hid.intro (h2.below hbb (Nat.le_refl _))
      clear h1 h2
      generalize ((w.alloc (.cells #[.slice a1 n0 c1, .int .u32 k1] 29)).alloc (.cells #[.slice a2 n0 c2, .int .u32 k2] 29)) = w0 at *
      obtain ⟨_, x0, x1, _, _⟩ := t1
      obtain ⟨_, y0, y1, _, _⟩ := t2
      go_loopw [5] (fun i wr => ∃ k n : Nat, k ≤ n0 ∧ i = .int .i64 k ∧ wr = w0.drewN n ∧ Hid (xs.take k = ys.take k)) (fun i _ => n0 - (intOf i).toNat)
      case atStart => exact ⟨0, 0, Nat.zero_le _, rfl, rfl, rfl⟩
      case round =>
        obtain ⟨k, n, hk, rfl, rfl, heq⟩ := hrel
        have x0' : (w0.drewN n).cell? ⟨w.heap.size, 0, none⟩ = some (.slice a1 n0 c1) := x0
        have y0' : (w0.drewN n).cell? ⟨w.heap.size + 1, 0, none⟩ = some (.slice a2 n0 c2) := y0
        by_cases hlt : k < n0
        · obtain ⟨t, ht⟩ : ∃ t, xs[k]? = some t := ⟨xs[k]'(by rw [← hnH.out]; exact hlt), List.getElem?_eq_getElem _⟩
          obtain ⟨u, hu⟩ : ∃ u, ys[k]? = some u := ⟨ys[k]'(by rw [← hn1H.out]; exact hlt), List.getElem?_eq_getElem _⟩
          rcases h1'.out with hx | ⟨g1, o1, rfl, _, hc1⟩
          · rw [hx] at ht; simp at ht
          rcases h2'.out with hx | ⟨g2, o2, rfl, _, hc2⟩
          · rw [hx] at hu; simp at hu
          obtain ⟨q0, q1⟩ := hc1 k t ht
          obtain ⟨p0, p1⟩ := hc2 k u hu
          clear hc1 hc2
          by_cases htu : t = u
          · subst htu
            have hnext : Hid (xs.take (k + 1) = ys.take (k + 1)) := by
              show _ = _
              rw [take_at xs k t ht, take_at ys k t hu, heq.out]
            clear ht hu
            go_wp2
            go_quiet (fail)
            go_wp2
            all_goals first
              | omega
              | skip
            go_roundw
            case rel => exact ⟨k + 1, n + nq, by omega, by go_num, by simp, hnext⟩
            case measure => simp [intOf]; omega
          · have hf : bv = false := by rw [hbH.out]; exact decide_eq_false (list_ne ht hu htu)
            subst hf
            clear ht hu
            rcases tm_ne htu with hne | ⟨hne, hce⟩
            · have e1 : ((str t.name).toList == (str u.name).toList) = false := by rw [str_toList, str_toList]; simp [hne]
              clear htu hne
              go_wp2
              go_quiet (fail)
              go_wp2
              all_goals first
                | omega
                | skip
              go_ret
              exact ⟨rfl, below_drewN (below_drewN hbb _) _⟩
            · have e1 : ((str t.name).toList == (str u.name).toList) = true := by rw [hne]; simp
              have e2 : (t.coef == u.coef) = false := by simp [hce]
              clear htu hne hce
              go_wp2
              go_quiet (fail)
              go_wp2
              all_goals first
                | omega
                | skip
              go_ret
              exact ⟨rfl, below_drewN (below_drewN hbb _) _⟩
        · have ht : bv = true := by
            rw [hbH.out]
            have e : k = xs.length := by rw [← hnH.out]; omega
            exact decide_eq_true (list_eq (by rw [← hnH.out, hn1H.out]) (by have := heq.out; rwa [e] at this))
          subst ht
          go_wp2
          all_goals first
            | omega
            | skip
          go_ret
          exact ⟨rfl, below_drewN hbb _⟩
    · have hne : xs ≠ ys := fun e => hl (by rw [hn0, hn1, e])
      have hf : bv = false := by rw [hbH.out]; exact decide_eq_false hne
      subst hf
      have hne2 : ((n0 : Int) != (n1 : Int)) = true := by simp; omega
      clear hne hl hn0 hn1
      go_enter Try.func11, Try.ntmps11
      go_wp2
      all_goals first
        | omega
        | skip
      go_ret
      exact ⟨rfl, hb0 _ _⟩
  · have hk' : (k1 != k2) = true := by simp [hk]
    have hf : bv = false := by rw [hbv, sameL]; simp [hk]
    subst hf
    clear hbv hk hn0 hn1
    go_enter Try.func11, Try.ntmps11
    go_wp2
    go_ret
    exact ⟨rfl, hb0 _ _⟩
end Go.Proofs.Ytebbbefknfldoaa
/- A region that draws its order, whose operations only read, and whose callees leave what was there as it was: walked once. -/
namespace Go.Proofs.Ytebbbefknfldoaa
open Go.ChangeShapes Go.WideShapes Go.ChangeAt Go.RowKit
set_option linter.unusedVariables false
set_option maxRecDepth 100000
structure BelowOf (w : World) where
  wd : World
  h : Below w.heap.size w wd
instance {w : World} : Inhabited (BelowOf w) := ⟨⟨w, Below.refl _ _⟩⟩
theorem BelowOf.cell {w : World} (p : BelowOf w) {a : Addr} {v : Value} (ha : a.block < w.heap.size) (h : w.cell? a = some v) : p.wd.cell? a = some v := by rw [p.h.cell ha]; exact h
theorem wp_region_quiet_below {P : Program} {id : Nat} {Q : Exit → Act → World → Prop} {a : Act} {w : World} {l : List Oper} (hm : P.follows .mixedOrders = true) (hB : Region.lexB .any l.toArray = true)
    (h : wpQuiet P l.toArray (fun w' => ∃ p : BelowOf w, w' = p.wd) (fun a' => ∀ w', (∃ p : BelowOf w, w' = p.wd) → Q .normal a' w') l a) : (Code.region id l.toArray true).wp P Q a w :=
  wp_region_quiet (C := fun w' => ∃ p : BelowOf w, w' = p.wd) hm hB ⟨⟨w.drew, (Below.refl _ _).drew⟩, rfl⟩ (by simpa using h)
theorem wpQuiet_skip {P : Program} {ops : Array Oper} {C : World → Prop} {Q : Act → Prop} {a : Act} {o : Oper} {rest : List Oper} (h : Region.wanted o (yielded ops a.tmps) = false) (k : wpQuiet P ops C Q rest (a.put o.dst undef)) : wpQuiet P ops C Q (o :: rest) a := by
  unfold wpQuiet
  rw [if_neg (by rw [h]; decide)]
  exact k
theorem below_calls {P : Program} {f : FuncId} {args : Array Value} {w : World} {p : BelowOf w} {v : Value}
    (h : Calls P f args p.wd fun e w' => e = .returned v ∧ Below p.wd.heap.size p.wd w') : Calls P f args p.wd fun e w'' => e = .returned v ∧ ∃ p' : BelowOf w, w'' = p'.wd :=
  h.mono fun _ w' ⟨he, hb⟩ => ⟨he, ⟨w', p.h.trans (hb.mono p.h.size)⟩, rfl⟩
end Go.Proofs.Ytebbbefknfldoaa
/- The document's Legal. -/
namespace Go.Proofs.Ytebbbefknfldoaa
open Go.ChangeShapes Go.WideShapes Go.ChangeAt Go.RowKit
set_option linter.unusedVariables false
set_option maxRecDepth 100000
theorem lenW_grow (p : Int → Bool) (hp : p 0 = false) (r : List UInt8) (k : Nat) (h : k ≤ lenW p r) (hc : p (atI r k) = true) : k + 1 ≤ lenW p r := by
  apply Decidable.byContradiction
  intro hn
  have e : lenW p r = k := by omega
  have := lenW_end p hp r
  rw [e, hc] at this
  cases this
theorem lenW_here (p : Int → Bool) (hp : p 0 = false) (r : List UInt8) (k : Nat) (h : k ≤ lenW p r) (hc : p (atI r k) = false) : lenW p r = k := by
  apply Decidable.byContradiction
  intro hn
  have := lenW_in p r k (by omega)
  rw [hc] at this
  cases this
set_option maxHeartbeats 1000000 in
theorem refLegal_any (s : ByteArray) (hs : s.size ≤ 1100000) (w : World) :
    Calls Try.prog 32 #[.string s] w fun e w' => e = .returned (.bool (legB s)) ∧ w' = w := by
  have hs2 : s.size ≤ 4611686018427387904 := by omega
  by_cases h1 : s.size < 1
  · have hl : legB s = false := by
      have : nameOK (bs s) = false := by
        cases h : nameOK (bs s)
        · rfl
        · simp only [nameOK, decide_eq_true_eq] at h
          have := (lenW_more inW inW_zero (bs s) (inW_of_let _ h.1)).2
          rw [bs_length] at this
          omega
      simp [legB, this]
    rw [hl]
    clear hl
    go_enter Try.func32, Try.ntmps32
    go_wp2
    all_goals first
      | omega
      | (go_ret; exact ⟨rfl, rfl⟩)
  · by_cases h32 : 32 < s.size
    · have hl : legB s = false := by
        have : nameOK (bs s) = false := by
          simp only [nameOK, decide_eq_false_iff_not]
          rw [bs_length]
          omega
        simp [legB, this]
      rw [hl]
      clear hl
      go_enter Try.func32, Try.ntmps32
      go_wp2
      all_goals first
        | omega
        | (go_ret; exact ⟨rfl, rfl⟩)
    · have hpos : 0 < s.size := by omega
      have hg0 := atI_get s 0 hpos
      have hle1 : ¬ ((s.size : Int) < 1) := by omega
      have hle2 : ¬ ((32 : Int) < (s.size : Int)) := by omega
      cases hlet : isLet (atI (bs s) 0)
      · have hl : legB s = false := by
          have : nameOK (bs s) = false := by
            simp only [nameOK, decide_eq_false_iff_not]
            rw [hlet]
            simp
          simp [legB, this]
        rw [hl]
        clear hl
        go_enter Try.func32, Try.ntmps32
        go_wp2_with (first
          | (go_at_call 50; refine (refLetter_any _ _).mono ?_; rintro e w' ⟨rfl, rfl⟩))
        all_goals first
          | omega
          | (go_ret; exact ⟨rfl, rfl⟩)
      · have hlH := Hid.intro hlet
        go_enter Try.func32, Try.ntmps32
        go_wp2_with (first
          | (go_at_call 50; refine (refLetter_any _ _).mono ?_; rintro e w' ⟨rfl, rfl⟩))
        all_goals first
          | omega
          | skip
        go_loop [3] (fun vi => ∃ k : Nat, k ≤ s.size ∧ vi = .int .i64 k ∧ Hid (k ≤ lenW inW (bs s))) (fun vi => s.size - (intOf vi).toNat)
        case atStart => exact ⟨0, by omega, rfl, Nat.zero_le _⟩
        case round =>
          obtain ⟨k, hk, rfl, hkl⟩ := hrel
          by_cases hlt : k < s.size
          · have hg := atI_get s k hlt
            cases hl : isLet (atI (bs s) k)
            · cases hd : isDig (atI (bs s) k)
              · have hw : lenW inW (bs s) = k := lenW_here inW inW_zero _ _ hkl.out (by simp [inW, hl, hd])
                have hlg : legB s = false := by
                  have : nameOK (bs s) = false := by
                    simp only [nameOK, decide_eq_false_iff_not]
                    rw [hw, bs_length]
                    omega
                  simp [legB, this]
                have hlgH := Hid.intro hlg
                clear hlg hw
                go_wp2_with (first
                  | (go_at_call 50; refine (refLetter_any _ _).mono ?_; rintro e w' ⟨rfl, rfl⟩)
                  | (go_at_call 51; refine (refDigit_any _ _).mono ?_; rintro e w' ⟨rfl, rfl⟩))
                all_goals first
                  | omega
                  | (go_ret; exact ⟨by rw [hlgH.out]; rfl, rfl⟩)
              · have hw := Hid.intro (lenW_grow inW inW_zero _ _ hkl.out (by simp [inW, hl, hd]))
                go_wp2_with (first
                  | (go_at_call 50; refine (refLetter_any _ _).mono ?_; rintro e w' ⟨rfl, rfl⟩)
                  | (go_at_call 51; refine (refDigit_any _ _).mono ?_; rintro e w' ⟨rfl, rfl⟩))
                all_goals first
                  | omega
                  | skip
                go_round
                case rel => exact ⟨k + 1, by omega, by go_num, hw⟩
                case measure => simp [intOf]; omega
            · have hw := Hid.intro (lenW_grow inW inW_zero _ _ hkl.out (by simp [inW, hl]))
              go_wp2_with (first
                | (go_at_call 50; refine (refLetter_any _ _).mono ?_; rintro e w' ⟨rfl, rfl⟩)
                | (go_at_call 51; refine (refDigit_any _ _).mono ?_; rintro e w' ⟨rfl, rfl⟩))
              all_goals first
                | omega
                | skip
              go_round
              case rel => exact ⟨k + 1, by omega, by go_num, hw⟩
              case measure => simp [intOf]; omega
          · have e : k = s.size := by omega
            subst e
            have hw : lenW inW (bs s) = (bs s).length := by
              have := lenW_le inW (bs s)
              rw [bs_length] at this ⊢
              have := hkl.out
              omega
            have hlg : legB s = !(isR s || isZ s) := by
              have : nameOK (bs s) = true := by
                simp only [nameOK, decide_eq_true_eq]
                refine ⟨hlH.out, hw, ?_⟩
                rw [bs_length]
                omega
              simp [legB, this]
            have hlgH := Hid.intro hlg
            clear hlg hw
            go_wp2_with (first
              | (go_at_call 52; refine (refRegister_any _ hs2 _).mono ?_; rintro e w' ⟨rfl, rfl⟩))
            all_goals first
              | omega
              | (go_ret; exact ⟨by rw [hlgH.out, Bool.not_or]; rfl, rfl⟩)
end Go.Proofs.Ytebbbefknfldoaa
namespace Go.Proofs.Ytebbbefknfldoaa
open Go.ChangeShapes Go.WideShapes Go.ChangeAt Go.RowKit
set_option linter.unusedVariables false
set_option maxRecDepth 100000
def okT (prev : Option (List UInt8)) (t : Tm) : Bool := decide (t.coef ≠ 0) && (legB (str t.name) && (match prev with | none => true | some p => nlt p t.name))
def rightF (prev : Option (List UInt8)) : List Tm → Bool
  | [] => true
  | t :: r => okT prev t && rightF (some t.name) r
def prevOf (ts : List Tm) : Nat → Option (List UInt8)
  | 0 => none
  | k + 1 => (ts[k]?).map (·.name)
def rightAt (ts : List Tm) (i : Nat) : Bool := rightF (prevOf ts i) (ts.drop i)
theorem rightAt_step (ts : List Tm) (i : Nat) (t : Tm) (ht : ts[i]? = some t) : rightAt ts i = (okT (prevOf ts i) t && rightAt ts (i + 1)) := by
  unfold rightAt
  rw [drop_at ts i t ht, rightF]
  congr 1
  simp [prevOf, ht]
theorem rightAt_end (ts : List Tm) : rightAt ts ts.length = true := by
  unfold rightAt
  rw [List.drop_length]
  rfl
theorem leq_nlt (p t : List UInt8) : (Op.bytesLess t p || t == p) = !nlt p t := by
  have h0 : Op.bytesLess t p = nlt t p := rfl
  rw [h0]
  rcases nlt_tri p t with h | h | h
  · rw [h, nlt_asymm h]
    have := nlt_ne h
    simp
    exact fun e => this e.symm
  · subst h
    rw [nlt_irrefl]
    simp
  · rw [h, nlt_asymm h]
    rfl
theorem str_size (l : List UInt8) : (str l).size = l.length := by simp [str, ByteArray.size]
end Go.Proofs.Ytebbbefknfldoaa
