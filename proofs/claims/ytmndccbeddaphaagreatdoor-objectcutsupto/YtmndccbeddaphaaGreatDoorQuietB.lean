/- A region that draws its order, whose operations only read, and whose callees leave what was there as it was: walked once. -/
import Derived.Test.YtmndccbeddaphaaGreatDoorEr3
import Derived.Test.YtmndccbeddaphaaGreatDoorTmMem
import Derived.Shelf.SlGeneric
import Derived.Shelf.SlSortCmp.WholeK
import Derived.Shelf.Slices.Turned
import Derived.Test.YtmndccbeddaphaaGreatDoorProg
import Derived.Shelf.SlSortCmp.NoneTotal
import Derived.Deep.QuietTactic
import Derived.BigQuiet
import Derived.WalkSmall
import Derived.WalkSpells
/- the law's sameErr, of two numbers. -/
namespace Go.Proofs.YtmndccbeddaphaaGreatDoor
open Go.ChangeShapes Go.WideShapes Go.ChangeAt Go.RowKit
set_option linter.unusedVariables false
set_option maxRecDepth 100000

theorem nil_errno (n : Int) (w : World) : (binOp .eql 32 (.iface 23 (.int .i64 n)) .nilIface).run Tryz.prog w = .ok (.bool false) w := by kernel_rfl

set_option maxHeartbeats 4000000 in
theorem sameErr_any (m n : Int) (w : World) : Calls Tryz.prog 34 #[.iface 23 (.int .i64 m), .iface 23 (.int .i64 n)] w fun e w' => e = .returned (.bool (m == n)) ∧ w' = w := by
  have e0 := nil_errno m
  have e1 := nil_errno n
  have e2 := eql_errno m n
  go_enter Tryz.func34, Tryz.ntmps34
  go_wp2
  go_ret
  exact ⟨rfl, rfl⟩

end Go.Proofs.YtmndccbeddaphaaGreatDoor
/- expr.Of, Named, Times. -/
namespace Go.Proofs.YtmndccbeddaphaaGreatDoor
open Go.ChangeShapes Go.WideShapes Go.ChangeAt Go.RowKit
set_option linter.unusedVariables false
set_option maxRecDepth 100000

theorem take_at {α : Type} (ts : List α) (i : Nat) (t : α) (h : ts[i]? = some t) : ts.take (i + 1) = ts.take i ++ [t] := by
  obtain ⟨hi, he⟩ := List.getElem?_eq_some_iff.1 h
  rw [List.take_add_one, h]
  rfl

end Go.Proofs.YtmndccbeddaphaaGreatDoor
/- expr.gather. -/
namespace Go.Proofs.YtmndccbeddaphaaGreatDoor
open Go.ChangeShapes Go.WideShapes Go.ChangeAt Go.RowKit
set_option linter.unusedVariables false
set_option maxRecDepth 100000

theorem drop_at {α : Type} (ts : List α) (i : Nat) (t : α) (h : ts[i]? = some t) : ts.drop i = t :: ts.drop (i + 1) := by
  obtain ⟨hi, he⟩ := List.getElem?_eq_some_iff.1 h
  rw [List.drop_eq_getElem_cons hi, he]

theorem own_len {w : World} {lo : Nat} {T : TypeId} {sz : Nat} {a : Option Addr} {c m n : Nat} {xs : List Value} (h : w.ownsRow lo T sz (.slice a m c) n xs) : m = n := by
  obtain ⟨a', c', h2⟩ := own_slice h
  injection h2 with _ h2 _

end Go.Proofs.YtmndccbeddaphaaGreatDoor
/- slices.Equal at terms; expr.Same and the document's. -/
namespace Go.Proofs.YtmndccbeddaphaaGreatDoor
open Go.ChangeShapes Go.WideShapes Go.ChangeAt Go.RowKit
set_option linter.unusedVariables false
set_option maxRecDepth 100000

theorem tm_ne {t u : Tm} (h : t ≠ u) : (t.name ≠ u.name) ∨ (t.name = u.name ∧ t.coef ≠ u.coef) := by
  by_cases hn : t.name = u.name
  · refine .inr ⟨hn, fun hc => h ?_⟩
    cases t; cases u; simp_all
  · exact .inl hn

theorem list_ne {α : Type} {xs ys : List α} {k : Nat} {t u : α} (h1 : xs[k]? = some t) (h2 : ys[k]? = some u) (h : t ≠ u) : xs ≠ ys := by
  intro e
  subst e
  rw [h1] at h2
  cases h2
  exact h rfl

theorem list_eq {α : Type} {xs ys : List α} (hl : xs.length = ys.length) (h : xs.take xs.length = ys.take xs.length) : xs = ys := by
  rw [List.take_length, hl, List.take_length] at h
  exact h

theorem below_drewN {B : Nat} {a w : World} (h : Below B a w) (n : Nat) : Below B a (w.drewN n) := ⟨h.os, h.tape, h.output, h.size, h.block⟩

/-- are two Lins one? -/
def sameL (xs ys : List Tm) (k1 k2 : Int) : Bool := decide (k1 = k2) && decide (xs = ys)

set_option maxHeartbeats 1000000 in
theorem refSame_any (a1 a2 : Option Addr) (c1 c2 : Nat) (xs ys : List Tm) (k1 k2 : Int) (w : World) (h1 : TmLies w a1 xs) (h2 : TmLies w a2 ys) (hm : xs.length ≤ 9000000) (hm2 : ys.length ≤ 9000000) :
    Calls Tryz.prog 92 #[linV (.slice a1 xs.length c1) k1, linV (.slice a2 ys.length c2) k2] w fun e w' => e = .returned (.bool (sameL xs ys k1 k2)) ∧ Below w.heap.size w w' := by
  have hb0 := fun o1 o2 => ((below_alloc w o1).alloc (by simp) o2)
  obtain ⟨n0, hn0⟩ : ∃ n0, n0 = xs.length := ⟨_, rfl⟩
  obtain ⟨n1, hn1⟩ : ∃ n1, n1 = ys.length := ⟨_, rfl⟩
  obtain ⟨bv, hbv⟩ : ∃ bv, bv = sameL xs ys k1 k2 := ⟨_, rfl⟩
  rw [← hn0, ← hn1, ← hbv]
  rw [← hn0] at hm
  rw [← hn1] at hm2
  have hnH := Hid.intro hn0
  have hn1H := Hid.intro hn1
  by_cases hk : k1 = k2
  · have hk' : (k1 != k2) = false := by simp [hk]
    have hbH : Hid (bv = decide (xs = ys)) := by show bv = _; rw [hbv, sameL, hk]; simp
    clear hbv hk
    by_cases hl : n0 = n1
    · subst hl
      have t1 := (two_new w 84 (.slice a1 n0 c1) (.int .u32 k1)).alloc (.cells #[.slice a2 n0 c2, .int .u32 k2] 84)
      have t2 := two_new (w.alloc (.cells #[.slice a1 n0 c1, .int .u32 k1] 84)) 84 (.slice a2 n0 c2) (.int .u32 k2)
      have hbb := hb0 (.cells #[.slice a1 n0 c1, .int .u32 k1] 84) (.cells #[.slice a2 n0 c2, .int .u32 k2] 84)
      simp only [World.size_alloc] at t2
      clear hn0 hn1 hb0
      go_enter Tryz.func92, Tryz.ntmps92
      go_wp2
      all_goals first | omega | skip
      have h1' := Hid.intro (h1.below hbb (Nat.le_refl _))
      have h2' := Hid.intro (h2.below hbb (Nat.le_refl _))
      clear h1 h2
      generalize ((w.alloc (.cells #[.slice a1 n0 c1, .int .u32 k1] 84)).alloc (.cells #[.slice a2 n0 c2, .int .u32 k2] 84)) = w0 at *
      obtain ⟨_, x0, x1, _, _⟩ := t1
      obtain ⟨_, y0, y1, _, _⟩ := t2
      go_loopw [5] (fun i wr => ∃ k n : Nat, k ≤ n0 ∧ i = .int .i64 k ∧ wr = w0.drewN n ∧ Hid (xs.take k = ys.take k)) (fun i _ => n0 - (intOf i).toNat)
      case atStart => exact ⟨0, 0, Nat.zero_le _, rfl, rfl, rfl⟩
      case round =>
        obtain ⟨k, n, hk, rfl, rfl, heq⟩ := hrel
        have x0' : (w0.drewN n).cell? ⟨w.heap.size, 0, none⟩ = some (.slice a1 n0 c1) := x0
        have y0' : (w0.drewN n).cell? ⟨w.heap.size + 1, 0, none⟩ = some (.slice a2 n0 c2) := y0
        by_cases hlt : k < n0
        · obtain ⟨t, ht⟩ : ∃ t, xs[k]? = some t := ⟨xs[k]'(by rw [← hnH.out]; exact hlt), List.getElem?_eq_getElem _⟩
          obtain ⟨u, hu⟩ : ∃ u, ys[k]? = some u := ⟨ys[k]'(by rw [← hn1H.out]; exact hlt), List.getElem?_eq_getElem _⟩
          rcases h1'.out with hx | ⟨g1, o1, rfl, _, hc1⟩
          · rw [hx] at ht; simp at ht
          rcases h2'.out with hx | ⟨g2, o2, rfl, _, hc2⟩
          · rw [hx] at hu; simp at hu
          obtain ⟨q0, q1⟩ := hc1 k t ht
          obtain ⟨p0, p1⟩ := hc2 k u hu
          clear hc1 hc2
          by_cases htu : t = u
          · subst htu
            have hnext : Hid (xs.take (k + 1) = ys.take (k + 1)) := by
              show _ = _
              rw [take_at xs k t ht, take_at ys k t hu, heq.out]
            clear ht hu
            go_wp2
            go_quiet (fail)
            go_wp2
            all_goals first
              | omega
              | skip
            go_roundw
            case rel => exact ⟨k + 1, n + nq, by omega, by go_num, by simp, hnext⟩
            case measure => simp [intOf]; omega
          · have hf : bv = false := by rw [hbH.out]; exact decide_eq_false (list_ne ht hu htu)
            subst hf
            clear ht hu
            rcases tm_ne htu with hne | ⟨hne, hce⟩
            · have e1 : ((str t.name).toList == (str u.name).toList) = false := by rw [str_toList, str_toList]; simp [hne]
              clear htu hne
              go_wp2
              go_quiet (fail)
              go_wp2
              all_goals first
                | omega
                | skip
              go_ret
              exact ⟨rfl, below_drewN (below_drewN hbb _) _⟩
            · have e1 : ((str t.name).toList == (str u.name).toList) = true := by rw [hne]; simp
              have e2 : (t.coef == u.coef) = false := by simp [hce]
              clear htu hne hce
              go_wp2
              go_quiet (fail)
              go_wp2
              all_goals first
                | omega
                | skip
              go_ret
              exact ⟨rfl, below_drewN (below_drewN hbb _) _⟩
        · have ht : bv = true := by
            rw [hbH.out]
            have e : k = xs.length := by rw [← hnH.out]; omega
            exact decide_eq_true (list_eq (by rw [← hnH.out, hn1H.out]) (by have := heq.out; rwa [e] at this))
          subst ht
          go_wp2
          all_goals first
            | omega
            | skip
          go_ret
          exact ⟨rfl, below_drewN hbb _⟩
    · have hne : xs ≠ ys := fun e => hl (by rw [hn0, hn1, e])
      have hf : bv = false := by rw [hbH.out]; exact decide_eq_false hne
      subst hf
      have hne2 : ((n0 : Int) != (n1 : Int)) = true := by simp; omega
      clear hne hl hn0 hn1
      go_enter Tryz.func92, Tryz.ntmps92
      go_wp2
      all_goals first
        | omega
        | skip
      go_ret
      exact ⟨rfl, hb0 _ _⟩
  · have hk' : (k1 != k2) = true := by simp [hk]
    have hf : bv = false := by rw [hbv, sameL]; simp [hk]
    subst hf
    clear hbv hk hn0 hn1
    go_enter Tryz.func92, Tryz.ntmps92
    go_wp2
    go_ret
    exact ⟨rfl, hb0 _ _⟩
end Go.Proofs.YtmndccbeddaphaaGreatDoor
namespace Go.Proofs.YtmndccbeddaphaaGreatDoor
open Go.ChangeShapes Go.WideShapes Go.ChangeAt Go.RowKit
set_option linter.unusedVariables false
set_option maxRecDepth 100000

/-- a world in which all that was in w is as it was -/
structure BelowOf (w : World) where
  wd : World
  h : Below w.heap.size w wd

instance {w : World} : Inhabited (BelowOf w) := ⟨⟨w, Below.refl _ _⟩⟩

theorem BelowOf.cell {w : World} (p : BelowOf w) {a : Addr} {v : Value} (ha : a.block < w.heap.size) (h : w.cell? a = some v) : p.wd.cell? a = some v := by rw [p.h.cell ha]; exact h

theorem wp_region_quiet_below {P : Program} {id : Nat} {Q : Exit → Act → World → Prop} {a : Act} {w : World} {l : List Oper} (hm : P.follows .mixedOrders = true) (hB : Region.lexB .any l.toArray = true)
    (h : wpQuiet P l.toArray (fun w' => ∃ p : BelowOf w, w' = p.wd) (fun a' => ∀ w', (∃ p : BelowOf w, w' = p.wd) → Q .normal a' w') l a) : (Code.region id l.toArray true).wp P Q a w :=
  wp_region_quiet (C := fun w' => ∃ p : BelowOf w, w' = p.wd) hm hB ⟨⟨w.drew, (Below.refl _ _).drew⟩, rfl⟩ (by simpa using h)

/-- an operation that is not wanted -/
theorem wpQuiet_skip {P : Program} {ops : Array Oper} {C : World → Prop} {Q : Act → Prop} {a : Act} {o : Oper} {rest : List Oper} (h : Region.wanted o (yielded ops a.tmps) = false) (k : wpQuiet P ops C Q rest (a.put o.dst undef)) : wpQuiet P ops C Q (o :: rest) a := by
  unfold wpQuiet
  rw [if_neg (by rw [h]; decide)]
  exact k

/-- a callee's contract, met in such a world -/
theorem below_calls {P : Program} {f : FuncId} {args : Array Value} {w : World} {p : BelowOf w} {v : Value}
    (h : Calls P f args p.wd fun e w' => e = .returned v ∧ Below p.wd.heap.size p.wd w') : Calls P f args p.wd fun e w'' => e = .returned v ∧ ∃ p' : BelowOf w, w'' = p'.wd :=
  h.mono fun _ w' ⟨he, hb⟩ => ⟨he, ⟨w', p.h.trans (hb.mono p.h.size)⟩, rfl⟩
end Go.Proofs.YtmndccbeddaphaaGreatDoor
