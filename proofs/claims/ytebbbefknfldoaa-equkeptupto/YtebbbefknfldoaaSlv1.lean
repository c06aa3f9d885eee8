/- equ.Solve's state in memory. -/
import Derived.Test.YtebbbefknfldoaaWk5
import Derived.Test.YtebbbefknfldoaaWk7a
import Derived.BigQuiet
import Derived.Laws.EntriesVeiled
import Derived.Deep.DeepCutAuto
import Derived.Shelf.Lays
import Derived.Test.YtebbbefknfldoaaProg
import Derived.Test.YtebbbefknfldoaaSortT
import Derived.Shelf.Sort.Plain
import Derived.Shelf.Slices.In.SortNone
import Derived.Sort.OwnSorted
import Derived.Lib.OwnBridge
import Derived.Test.YtebbbefknfldoaaKnown
import Derived.Sort.KeysCollected
import Derived.Maps.RangeWalk
/- equ.Put. -/
namespace Go.Proofs.Ytebbbefknfldoaa
open Go.ChangeShapes Go.WideShapes Go.ChangeAt Go.RowKit
set_option linter.unusedVariables false
set_option linter.unusedSimpArgs false
set_option maxRecDepth 100000
structure P3 (w : World) (x : Lin) (a : Option Addr) (c : Nat) (l : List Eqv) (i : Nat) (wr : World) : Prop where
  bel : Below w.heap.size w wr
  bx : Two wr w.heap.size 29 (.slice a x.terms.length c) (.int .u32 x.const)
  res : Two wr (w.heap.size + 1) 29 (.slice none 0 0) (.int .u32 0)
  map : LinMap wr (w.heap.size + 1 + 1) i (eqF (l.take i))
theorem P3.below {w : World} {x : Lin} {a : Option Addr} {c : Nat} {l : List Eqv} {i : Nat} {wr w' : World} (h : P3 w x a c l i wr) (hb : Below wr.heap.size wr w') : P3 w x a c l i w' :=
  ⟨h.bel.trans (hb.mono h.bel.size), h.bx.below hb (Array.getElem?_eq_some_iff.1 h.bx.heap).1, h.res.below hb (Array.getElem?_eq_some_iff.1 h.res.heap).1, h.map.below hb⟩
theorem P3.put {w : World} {x : Lin} {a : Option Addr} {c : Nat} {l : List Eqv} {i : Nat} {wr w' : World} (h : P3 w x a c l i wr) {q : Eqv} (hq : l[i]? = some q) (hm : LinMap w' (w.heap.size + 1 + 1) (i + 1) (fun y => if y = q.1 then some q.2 else eqF (l.take i) y)) (hg : wr.grownBy w' (some (w.heap.size + 1 + 1))) : P3 w x a c l (i + 1) w' :=
  ⟨h.bel.grown hg h.bel.size (fun g e => by cases e; omega), h.bx.grown hg (by simp; omega), h.res.grown hg (by simp), by rw [eqF_take hq]; exact hm⟩
set_option maxHeartbeats 16000000 in
theorem putL_any (l : List Eqv) (x : Lin) (S : List (List UInt8)) (hS : S.length ≤ 4400000) (hSn : ∀ s ∈ S, s.length ≤ 140737488355328) (hx : CanL x) (hxS : ∀ t ∈ x.terms, t.name ∈ S) (hl : l.length ≤ 1000) (hle : ∀ q ∈ l, q.1.length ≤ 140737488355328 ∧ CanL q.2 ∧ ∀ t ∈ q.2.terms, t.name ∈ S)
    (a la : Option Addr) (c lc : Nat) (w : World) (hT : TmLies w a x.terms) (hE : EqIn w la l) :
    Calls Try.prog 12 #[linV (.slice a x.terms.length c) x.const, .slice la l.length lc] w fun e w' => Below w.heap.size w w' ∧ ∃ v, e = .returned (linV v (putN (eqF l) x).const) ∧ w'.ownsRow w.heap.size 49 2 v (putN (eqF l) x).terms.length (rowT (putN (eqF l) x).terms) := by
  have hget : Hid (∀ i, i < l.length → ∃ q gl ol va vc, l[i]? = some q ∧ la = some ⟨gl, ol, none⟩ ∧ gl < w.heap.size ∧ EqAt w gl (ol + i * 3) q va vc ∧ q.1.length ≤ 140737488355328) := fun i hi => by
    rcases hE with e | ⟨gl, ol, e1, e2, e3⟩
    · rw [e] at hi; simp at hi
    · obtain ⟨va, vc, hq⟩ := e3 i l[i] (List.getElem?_eq_getElem hi)
      exact ⟨l[i], gl, ol, va, vc, List.getElem?_eq_getElem hi, e1, e2, hq, (hle _ (List.getElem_mem hi)).1⟩
  have hput : Hid (∀ (wr : World) (hP : P3 w x a c l l.length wr), Calls Try.prog 30 #[linV (.slice a x.terms.length c) x.const, .map (some (w.heap.size + 1 + 1))] wr fun e w' => ∃ a3 c3, e = .returned (linV (.slice a3 (putN (eqF l) x).terms.length c3) (putN (eqF l) x).const) ∧ Hid (Below w.heap.size w w') ∧ Hid (w'.ownsRow (w.heap.size + 1 + 1) 49 2 (.slice a3 (putN (eqF l) x).terms.length c3) (putN (eqF l) x).terms.length (rowT (putN (eqF l) x).terms)) ∧ w'.cell? ⟨w.heap.size + 1, 0, none⟩ = some (.slice none 0 0) ∧ w'.cell? ⟨w.heap.size + 1, 1, none⟩ = some (.int .u32 0) ∧ w'.frozen? ⟨w.heap.size + 1, 0, none⟩ = false ∧ w'.frozen? ⟨w.heap.size + 1, 1, none⟩ = false ∧ Hid (Two w' (w.heap.size + 1) 29 (.slice none 0 0) (.int .u32 0))) := fun wr hP => by
    have hm := hP.map
    rw [List.take_length] at hm
    refine (put_any (eqF l) x S hS hSn hx hxS (fun s e h => by obtain ⟨q, h1, _, rfl⟩ := eqF_some h; exact (hle q h1).2) a c _ _ wr (hT.below hP.bel (Nat.le_refl _)) hm).mono ?_
    rintro e w' ⟨hb, v, rfl, ho⟩
    obtain ⟨a3, c3, rfl⟩ := own_slice ho
    have h1 := hP.res.below hb (Array.getElem?_eq_some_iff.1 hP.res.heap).1
    exact ⟨a3, c3, rfl, hP.bel.trans (hb.mono hP.bel.size), own_weaken ho (by have := hm.lt; omega), h1.c0, h1.c1, h1.f0, h1.f1, h1⟩
  have hmm : ∀ (z : Int) (W : World), (Instr.makeMap 69 (some (.int .i64 z))).run Try.prog W = .ok (.map (some W.heap.size)) (W.alloc (.map #[] 0)) := fun z W => run_makeMap_hint Try.underlying69 z W
  obtain ⟨n0, hn0⟩ : ∃ n0, n0 = l.length := ⟨_, rfl⟩
  obtain ⟨xl, hxl⟩ : ∃ xl, xl = x.terms.length := ⟨_, rfl⟩
  have hH := Hid.intro hn0
  have hxH := Hid.intro hxl
  rw [← hn0] at hl ⊢
  rw [← hxl] at hput ⊢
  clear hn0 hxl hT hE hle hS hSn hx hxS
  generalize putN (eqF l) x = R at *
  go_enter Try.func12, Try.ntmps12
  go_wp2
  all_goals first | omega | skip
  go_loopw [13] (fun v13 wr => ∃ (i : Nat), i ≤ n0 ∧ v13 = .int .i64 (i : Int) ∧ Hid (P3 w x a c l i wr)) (fun v13 _ => n0 - (intOf v13).toNat)
  case atStart =>
    refine ⟨0, by omega, by first | rfl | go_num, ?_⟩
    have t0 := ((two_new w 29 (.slice a xl c) (.int .u32 x.const)).alloc (.cells #[.slice none 0 0, .int .u32 0] 29)).alloc (.map #[] 0)
    have t1 := (two_new (w.alloc (.cells #[.slice a xl c, .int .u32 x.const] 29)) 29 (.slice none 0 0) (.int .u32 0)).alloc (.map #[] 0)
    have t2 := LinMap.made ((w.alloc (.cells #[.slice a xl c, .int .u32 x.const] 29)).alloc (.cells #[.slice none 0 0, .int .u32 0] 29))
    simp only [World.size_alloc] at t1 t2
    exact ⟨((below_alloc w _).alloc (by simp) _).alloc (by simp; omega) _, by rw [← hxH.out]; exact t0, t1, t2⟩
  case round =>
    obtain ⟨i, hi, rfl, hP⟩ := hrel
    by_cases hin : i < n0
    · obtain ⟨q, gl, ol, va, vc, hq, rfl, hgl, hqa, hql⟩ := hget.out i (by rw [← hH.out]; exact hin)
      have hq' := hqa.below hgl hP.out.bel
      have q0 := hq'.name
      have q1 := hq'.terms
      have q2 := hq'.const
      have hb5 := below_alloc wr (.cells #[.string (str q.1), .slice va q.2.terms.length vc, .int .u32 q.2.const] 31)
      have hP2 := Hid.intro (hP.out.below hb5)
      obtain ⟨wu, hrun, hm, hgu⟩ := linput hP2.out.map (by omega) q.1 hql q.2 va vc (hq'.lies.below hb5 (Nat.le_refl _))
      have hP3 := Hid.intro (hP2.out.put hq hm hgu)
      obtain ⟨tl, htl⟩ : ∃ tl, tl = q.2.terms.length := ⟨_, rfl⟩
      rw [← htl] at q1 hrun
      have hP4 : Hid (wu = wu) := rfl
      rw [← htl] at hP2
      clear hq hqa hq' htl hm hgu hP hP2 hb5
      go_wp2_with fail
      all_goals first | omega | skip
      go_roundw
      case rel => exact ⟨i + 1, by omega, by go_num, hP3⟩
      case measure => simp [intOf]; omega
    · obtain rfl : i = n0 := by omega
      have hc := hput.out wr (by rw [← hH.out]; exact hP.out)
      replace hc := Hid.intro hc
      obtain ⟨_, x0, x1, _, _⟩ := hP.out.bx
      rw [← hxH.out] at x0
      obtain ⟨Rl, hRl⟩ : ∃ Rl, Rl = R.terms.length := ⟨_, rfl⟩
      have hRlH := Hid.intro hRl
      rw [← hRl] at hc
      clear hP hput hRl
      go_wp2_with (go_at_call 30; (with_reducible refine (hc.out).mono ?_); rintro e w8 ⟨a3, c3, rfl, hb8, ho8, k0, k1, k2, k3, k4⟩)
      all_goals first | omega | skip
      obtain ⟨s1, s2⟩ := two_set k4.out.heap rfl (.slice a3 Rl c3) (.int .u32 R.const)
      have hb2 : Below w.heap.size w ((w8.setCell ⟨w.heap.size + 1, 0, none⟩ (.slice a3 Rl c3)).setCell ⟨w.heap.size + 1, 1, none⟩ (.int .u32 R.const)) := hb8.out.grown s2 hb8.out.size (fun j hj => by cases hj; omega)
      generalize ((w8.setCell ⟨w.heap.size + 1, 0, none⟩ (.slice a3 Rl c3)).setCell ⟨w.heap.size + 1, 1, none⟩ (.int .u32 R.const)) = w3 at s1 s2 hb2 ⊢
      obtain ⟨_, z0, z1, _, _⟩ := s1
      refine bodyPost_ret (by simp [results, Try.results12, go_sem, z0, z1]; try rfl) rfl ?_
      exact ⟨hb2, _, rfl, by rw [← hRlH.out]; exact own_weaken (own_low ho8.out s2 (by omega)) (by omega)⟩
end Go.Proofs.Ytebbbefknfldoaa
/- equ.walk, whole. -/
namespace Go.Proofs.Ytebbbefknfldoaa
open Go.ChangeShapes Go.WideShapes Go.ChangeAt Go.RowKit
set_option linter.unusedVariables false
set_option linter.unusedSimpArgs false
set_option maxRecDepth 100000
abbrev walkL (l : List Eqv) : Ta.St := Ta.walkF (adjF l) (selfF l) l.length
structure WalkO (w : World) (l : List Eqv) (a : Option Addr) (c B nb : Nat) (w' : World) : Prop where
  bel : Below w.heap.size w w'
  own : w'.ownsRow w.heap.size 3 1 (.slice a (walkL l).order.length c) (walkL l).order.length (rowN (walkL l).order)
  le : nb ≤ (walkL l).order.length
  ge : w.heap.size ≤ B
  map : IntIs w' B nb (backF l (walkL l).back)
  apart : (Value.slice a (walkL l).order.length c).ownBlock ≠ some B
  len : (walkL l).order.length ≤ l.length
structure WL (w : World) (b : Nat → Nat) (l : List Eqv) (la : Option Addr) (lc na i nb : Nat) (s : Ta.St) (wr : World) : Prop where
  is : Ta.allF (adjF l) (selfF l) l.length ((List.range l.length).drop i) s = walkL l
  inv : Ta.Inv (adjF l) l.length s
  opn : s.opn = []
  fs : FS w b l la lc na nb s wr
  sz : Sz s
  nb : nb ≤ s.order.length
theorem drop_range {n i : Nat} (h : i < n) : (List.range n).drop i = i :: (List.range n).drop (i + 1) := by
  rw [List.drop_eq_getElem_cons (by simpa using h)]
  simp
section
variable {w : World} {b : Nat → Nat} {l : List Eqv} {la : Option Addr} {lc na i nb : Nat} {s : Ta.St} {wr : World}
theorem WL.skip (h : WL w b l la lc na i nb s wr) (hi : i < l.length) (h0 : s.met i ≠ 0) : WL w b l la lc na (i + 1) nb s wr := by
  refine ⟨?_, h.inv, h.opn, h.fs, h.sz, h.nb⟩
  have := h.is
  rw [drop_range hi, Ta.allF, if_neg h0] at this
  exact this
theorem WL.go (h : WL w b l la lc na i nb s wr) (hl : l.length < Ta.big) (hnd : (l.map (·.1)).Nodup) (hi : i < l.length) (h0 : s.met i = 0) {nb' : Nat} {w' : World} (hn : nb' ≤ (Ta.visitF (adjF l) (selfF l) l.length i s).2.order.length) (hF : FS w b l la lc na nb' (Ta.visitF (adjF l) (selfF l) l.length i s).2 w') : WL w b l la lc na (i + 1) nb' (Ta.visitF (adjF l) (selfF l) l.length i s).2 w' := by
  obtain ⟨tail, V⟩ := Ta.visit_is (self := selfF l) hl (adj_lt l) (self_adj hnd) l.length i s h.inv h0 hi (fun v hv => by rw [h.opn] at hv; cases hv) (by have := h.inv.cnt; omega)
  have ht : tail = [] := by
    cases tail with
    | nil => rfl
    | cons x l2 =>
      obtain ⟨u, hu, _⟩ := V.hit (by simp)
      rw [h.opn] at hu
      cases hu
  refine ⟨?_, V.inv, by rw [V.opn, h.opn, ht]; rfl, hF, sz_visit _ _ _ _ _ h.sz, hn⟩
  have := h.is
  rw [drop_range hi, Ta.allF, if_pos h0] at this
  exact this
end
theorem run_makeMap_none {P : Program} {t k e : TypeId} (ht : P.underlying t = some (.map k e)) (w : World) : (Instr.makeMap t none).run P w = .ok (.map (some w.heap.size)) (w.alloc (.map #[] 0)) := by
  simp [Instr.makeMap, run_underlying ht, asInt, asIntOf]
set_option maxHeartbeats 16000000 in
theorem walk_mem (l : List Eqv) (la : Option Addr) (lc : Nat) (hl : l.length ≤ 1000) (hnd : (l.map (·.1)).Nodup) (hheld : ∀ q ∈ l, q.1.length ≤ 140737488355328 ∧ q.2.terms.length ≤ 4400000 ∧ ∀ t ∈ q.2.terms, t.name.length ≤ 140737488355328) (w : World) (hE : EqIn w la l) :
    Calls Try.prog 28 #[.slice la l.length lc] w fun e w' => ∃ a n c B nb, n = (walkL l).order.length ∧ e = .returned (.tuple #[.slice a n c, .map (some B)]) ∧ WalkO w l a c B nb w' := by
  have hget : Hid (∀ i, i < l.length → ∃ q gl ol va vc, l[i]? = some q ∧ la = some ⟨gl, ol, none⟩ ∧ gl < w.heap.size ∧ EqAt w gl (ol + i * 3) q va vc) := fun i hi => by
    rcases hE with e | ⟨gl, ol, e1, e2, e3⟩
    · rw [e] at hi; simp at hi
    · obtain ⟨va, vc, hq⟩ := e3 i l[i] (List.getElem?_eq_getElem hi)
      exact ⟨l[i], gl, ol, va, vc, List.getElem?_eq_getElem hi, e1, e2, hq⟩
  have hstart : Hid (∀ wr, WA w l la lc l.length wr → FS w (wkB w.heap.size wr.heap.size) l la lc l.length 0 Ta.zeroS (alls wr (wkO w.heap.size wr.heap.size l.length))) := fun wr h => fs_start h hE hl
  have hvis : Hid (∀ (b : Nat → Nat) (i nb : Nat) (s : Ta.St) (wr : World), WL w b l la lc l.length i nb s wr → i < l.length → s.met i = 0 → Calls Try.prog 44 (visA b i) wr fun e w' => ViO w b l la lc l.length (Ta.visitF (adjF l) (selfF l) l.length i s) e w') := fun b i nb s wr h hi h0 =>
    visit_mem hl hnd hheld l.length i s nb wr h.fs h.nb h.sz h.inv h0 hi (fun v hv => by rw [h.opn] at hv; cases hv) (by have := h.inv.cnt; omega)
  have hgo : Hid (∀ (b : Nat → Nat) (i nb nb' : Nat) (s : Ta.St) (wr w' : World), WL w b l la lc l.length i nb s wr → i < l.length → s.met i = 0 → nb' ≤ (Ta.visitF (adjF l) (selfF l) l.length i s).2.order.length → FS w b l la lc l.length nb' (Ta.visitF (adjF l) (selfF l) l.length i s).2 w' → WL w b l la lc l.length (i + 1) nb' (Ta.visitF (adjF l) (selfF l) l.length i s).2 w') := fun b i nb nb' s wr w' h hi h0 h1 h2 => h.go (Nat.lt_of_le_of_lt hl (by decide)) hnd hi h0 h1 h2
  have hnm : Hid (∀ i q, l[i]? = some q → nmOf l i = q.1 ∧ q.1.length ≤ 140737488355328) := fun i q hq => ⟨nmOf_get hq, (hheld q (List.mem_of_getElem? hq)).1⟩
  have hmm : ∀ (z : Int) (W : World), (Instr.makeMap 66 (some (.int .i64 z))).run Try.prog W = .ok (.map (some W.heap.size)) (W.alloc (.map #[] 0)) := fun z W => run_makeMap_hint Try.underlying66 z W
  have hmk0 : ∀ W : World, (Instr.makeMap 66 none).run Try.prog W = .ok (.map (some W.heap.size)) (W.alloc (.map #[] 0)) := fun W => run_makeMap_none Try.underlying66 W
  obtain ⟨n0, hn0⟩ : ∃ n0, n0 = l.length := ⟨_, rfl⟩
  obtain ⟨M, hM, hms0, hmsn⟩ : ∃ M : Array Value, M = madeCells #[.int .i64 0] n0 ∧ (∀ W : World, (Instr.makeSlice 65 (.int .i64 0) (.int .i64 (n0 : Int))).run Try.prog W = .ok (.slice (some ⟨W.heap.size, 0, none⟩) 0 n0) (W.alloc (.cells M 3))) ∧ ∀ W : World, (Instr.makeSlice 65 (.int .i64 (n0 : Int)) (.int .i64 (n0 : Int))).run Try.prog W = .ok (.slice (some ⟨W.heap.size, 0, none⟩) n0 n0) (W.alloc (.cells M 3)) := by
    obtain ⟨i3, hi3, hz0, hz1, hz2⟩ := info_parts info3
    refine ⟨_, rfl, fun W => ?_, fun W => ?_⟩
    · have h := run_make (P := Try.prog) W 65 3 i3 (.int .i64 0) Try.underlying65 hi3 hz0 .i64 .i64 0 (n0 : Int) (by omega) (by omega) (by rw [hz2]; omega) (by omega)
      rw [hz1] at h
      simp only [Int.toNat_natCast, Int.toNat_zero, Nat.mul_one] at h
      exact h
    · have h := run_make (P := Try.prog) W 65 3 i3 (.int .i64 0) Try.underlying65 hi3 hz0 .i64 .i64 (n0 : Int) (n0 : Int) (by omega) (by omega) (by rw [hz2]; omega) (by omega)
      rw [hz1] at h
      simp only [Int.toNat_natCast, Nat.mul_one] at h
      exact h
  replace hM := Hid.intro hM
  have hend : Hid (∀ (b : Nat → Nat) (nb : Nat) (s : Ta.St) (wr : World), WL w b l la lc l.length n0 nb s wr → s = walkL l) := fun b nb s wr h => by
    have := h.is
    rw [hn0, List.drop_of_length_le (by simp), Ta.allF] at this
    exact this
  have hH := Hid.intro hn0
  rw [← hn0] at hl ⊢
  clear hn0 hE hnd hheld
  go_enter Try.func28, Try.ntmps28
  go_wp2
  all_goals first | omega | skip
  go_loopw [20] (fun v20 wr => ∃ (i : Nat), i ≤ n0 ∧ v20 = .int .i64 (i : Int) ∧ Hid (WA w l la lc i wr)) (fun v20 _ => n0 - (intOf v20).toNat)
  case atStart =>
    refine ⟨0, by omega, rfl, ?_⟩
    have hb1 := below_alloc w (.cells #[.slice la n0 lc] 22)
    have h1 := heap_alloc_new w (.cells #[.slice la n0 lc] 22)
    have hs1 : (w.alloc (.cells #[.slice la n0 lc] 22)).heap.size = w.heap.size + 1 := by simp
    rw [hH.out] at *
    generalize w.alloc (.cells #[.slice la l.length lc] 22) = W1 at *
    have hm1 := IntIs.made W1
    have hb2 := below_alloc W1 (.map #[] 0)
    have hs2 : (W1.alloc (.map #[] 0)).heap.size = w.heap.size + 1 + 1 := by simp [hs1]
    rw [hs1] at hm1
    generalize W1.alloc (.map #[] 0) = W2 at *
    have hb3 := below_alloc W2 (.cells #[.map (some (w.heap.size + 1))] 66)
    have h3 := heap_alloc_new W2 (.cells #[.map (some (w.heap.size + 1))] 66)
    rw [hs2] at h3
    generalize W2.alloc (.cells #[.map (some (w.heap.size + 1))] 66) = W3 at *
    have hb23 : Below W1.heap.size W1 W3 := hb2.trans (hb3.mono (by omega))
    exact ⟨hb1.trans (hb23.mono (by omega)), (hb23.block _ (by omega)).trans h1, h3, hm1.kept (row := none) ⟨hb3.os, hb3.tape, hb3.output, hb3.size, fun k hk _ => hb3.block k hk⟩ (by simp)⟩
  case round =>
    obtain ⟨i, hi, rfl, hA⟩ := hrel
    by_cases hin : i < n0
    · obtain ⟨q, gl, ol, va, vc, hq, rfl, hgl, hqa⟩ := hget.out i (by rw [← hH.out]; exact hin)
      have hq' := hqa.below hgl hA.out.bel
      have q0 := hq'.name
      have q1 := hq'.terms
      have q2 := hq'.const
      obtain ⟨tl, htl⟩ : ∃ tl, tl = q.2.terms.length := ⟨_, rfl⟩
      rw [← htl] at q1
      have hA2 := Hid.intro (hA.out.below (below_alloc wr (.cells #[.string (str q.1), .slice va tl vc, .int .u32 q.2.const] 31)))
      obtain ⟨wu, hrun, hIs, hgu⟩ := intput_run hA2.out.aa (by omega) q.1 (i : Int) (hnm.out i q hq).2
      have hA3 : Hid (WA w l (some ⟨gl, ol, none⟩) lc (i + 1) wu) := hA2.out.put (by rw [(hnm.out i q hq).1]; exact hIs) hgu
      have x4 := (Joins.cell_of_block hA2.out.ab 0).trans rfl
      clear hq hqa hq' htl hIs hgu hA hA2
      go_wp2_with fail
      all_goals first | omega | skip
      go_roundw
      case rel => exact ⟨i + 1, by omega, by go_num, hA3⟩
      case measure => simp [intOf]; omega
    · obtain rfl : i = n0 := by omega
      have hA4 : Hid (WA w l la lc l.length wr) := by
        show WA _ _ _ _ _ _
        rw [← hH.out]
        exact hA.out
      have hF0 := hstart.out wr hA4.out
      rw [← hH.out] at hF0
      replace hF0 := Hid.intro hF0
      have hlb : wr.cell? ⟨w.heap.size, 0, none⟩ = some (.slice la i lc) := by rw [hH.out]; exact (Joins.cell_of_block hA4.out.lb 0).trans rfl
      have hsl := wblk_lt hA4.out.ab
      have hbA := fun (W : World) (o : Obj) => below_alloc W o
      have hl1 : ∀ o1 o2 o3 o4, ((((wr.alloc o1).alloc o2).alloc o3).alloc o4).cell? ⟨w.heap.size, 0, none⟩ = some (.slice la i lc) := fun o1 o2 o3 o4 => by
        have hb := ((((below_alloc wr o1).alloc (by simp) o2).alloc (by simp; omega) o3).alloc (by simp; omega) o4)
        exact (hb.cell (p := ⟨w.heap.size, 0, none⟩) (by show w.heap.size < wr.heap.size; omega)).trans hlb
      clear hA hA4 hbA
      go_upto_region 13 with fail
      all_goals first | omega | skip
      have hMo := hM.out
      rw [hMo]
      change Code.wp _ _ _ _ (alls wr (wkO w.heap.size wr.heap.size i))
      generalize alls wr (wkO w.heap.size wr.heap.size i) = W0 at *
      obtain ⟨b, hb⟩ : ∃ b, b = wkB w.heap.size wr.heap.size := ⟨_, rfl⟩
      have e8 : wr.heap.size + 1 + 1 + 1 + 1 + 1 + 1 + 1 + 1 + 1 = b 8 := by rw [hb]; rfl
      have e7 : wr.heap.size + 1 + 1 + 1 + 1 + 1 + 1 + 1 + 1 = b 7 := by rw [hb]; rfl
      have e0 : wr.heap.size + 1 + 1 + 1 + 1 + 1 + 1 + 1 = b 0 := by rw [hb]; rfl
      have e5 : wr.heap.size + 1 + 1 + 1 + 1 + 1 + 1 = b 5 := by rw [hb]; rfl
      have e1 : wr.heap.size + 1 + 1 + 1 + 1 + 1 = b 1 := by rw [hb]; rfl
      have e9 : wr.heap.size + 1 + 1 + 1 + 1 = b 9 := by rw [hb]; rfl
      have e3 : wr.heap.size + 1 + 1 + 1 = b 3 := by rw [hb]; rfl
      have e4 : wr.heap.size + 1 + 1 = b 4 := by rw [hb]; rfl
      have e10 : wr.heap.size + 1 = b 10 := by rw [hb]; rfl
      have e6 : w.heap.size + 1 + 1 = b 6 := by rw [hb]; rfl
      have e11 : w.heap.size + 1 = b 11 := by rw [hb]; rfl
      have e2 : w.heap.size = b 2 := by rw [hb]; rfl
      have hWL0 : Hid (WL w b l la lc l.length 0 0 Ta.zeroS W0) := by
        refine ⟨rfl, Ta.inv_zero, rfl, ?_, by show 0 + 0 ≤ 0; omega, Nat.le_refl _⟩
        rw [hb, ← hH.out] at *
        exact hF0.out
      rw [e8, e7, e0, e5, e1, e9, e3, e4, e10, e6, e11, e2]
      have hi2 := Hid.intro hH.out
      clear e8 e7 e0 e5 e1 e9 e3 e4 e10 e6 e11 hb hF0 hlb hl1 hsl hstart hget hnm hms0 hmsn hMo hM hmm hmk0 M
      have x2 := (Joins.cell_of_block hWL0.out.fs.lb 0).trans rfl
      rw [← hi2.out] at x2
      go_wp2_with fail
      all_goals first | omega | skip
      clear x2
      go_loopw [41] (fun v41 wr => ∃ (j nb : Nat) (s : Ta.St), j ≤ i ∧ v41 = .int .i64 (j : Int) ∧ Hid (WL w b l la lc l.length j nb s wr)) (fun v41 _ => i - (intOf v41).toNat)
      case atStart => exact ⟨0, 0, _, by omega, rfl, hWL0⟩
      case round =>
        obtain ⟨j, nb, s, hj, rfl, hW⟩ := hrel
        clear hWL0
        by_cases hji : j < i
        · have hjl : j < l.length := by rw [← hi2.out]; exact hji
          have x1 := (Joins.cell_of_block hW.out.fs.mb 0).trans rfl
          have x9 := (Joins.cell_of_block hW.out.fs.mm j).trans (metR_get l.length _ j hjl)
          have x8 := (Joins.cell_of_block hW.out.fs.vb 0).trans rfl
          rw [← hi2.out] at x1
          by_cases h0 : s.met j = 0
          · have hcall := Hid.intro (hvis.out b j nb s wr hW.out hjl h0)
            have hgo2 : Hid (∀ nb' w', nb' ≤ (Ta.visitF (adjF l) (selfF l) l.length j s).2.order.length → FS w b l la lc l.length nb' (Ta.visitF (adjF l) (selfF l) l.length j s).2 w' → WL w b l la lc l.length (j + 1) nb' (Ta.visitF (adjF l) (selfF l) l.length j s).2 w') := fun nb' w' h1 h2 => hgo.out b j nb nb' s wr w' hW.out hjl h0 h1 h2
            unfold ViO at hcall
            generalize (Ta.visitF (adjF l) (selfF l) l.length j s).1 = rv at *
            generalize (Ta.visitF (adjF l) (selfF l) l.length j s).2 = rs at *
            rw [h0] at x9
            have hjl2 := Hid.intro hjl
            clear h0 hjl hW
            go_wp2_with (go_at_call 44; (with_reducible refine (hcall.out).mono ?_); rintro e w8 ⟨rfl, nb2, h1, h2⟩; have hW2 := Hid.intro (hgo2.out nb2 w8 h1 h2); clear h1 h2)
            all_goals first | omega | skip
            go_roundw
            case rel => exact ⟨j + 1, nb2, rs, by omega, by go_num, hW2⟩
            case measure => simp [intOf]; omega
          · have hW2 := Hid.intro (hW.out.skip hjl h0)
            have hmz : ((s.met j : Int) == 0) = false := by simp; exact h0
            generalize s.met j = mj at *
            have hjl2 := Hid.intro hjl
            clear h0 hjl hW
            go_wp2_with fail
            all_goals first | omega | skip
            go_roundw
            case rel => exact ⟨j + 1, nb, s, by omega, by go_num, hW2⟩
            case measure => simp [intOf]; omega
        · obtain rfl : j = i := by omega
          have hs := hend.out b nb s wr hW.out
          subst hs
          obtain ⟨a0, c0, o1, o2, o3, a2, c2, r1, r2, r3⟩ := hW.out.fs.op
          have y4 := (Joins.cell_of_block r1 0).trans rfl
          have y3 := (Joins.cell_of_block hW.out.fs.kb 0).trans rfl
          have hlen9 : (walkL l).order.length ≤ l.length := by
            have h1 := hW.out.sz
            have h2 := hW.out.inv.cnt
            unfold Sz at h1
            omega
          have hres : Hid (∀ k, WalkO w l a2 c2 (b 10) nb (wr.drewN k)) := fun k => by
            have hd : Below wr.heap.size wr (wr.drewN k) := below_drewV (Below.refl _ _) k
            have hg : wr.grownBy (wr.drewN k) none := ⟨hd.os, hd.tape, hd.output, hd.size, fun k hk _ => hd.block k hk⟩
            exact ⟨hW.out.fs.bel.trans (hd.mono hW.out.fs.bel.size), own_row r2 (fun g _ e => by cases e) hg, hW.out.nb, hW.out.fs.ap.ge 10 (by decide), hW.out.fs.kk.kept hg (by simp), fun e => (r3 _ e).1 10 (by decide) rfl, hlen9⟩
          obtain ⟨n2, hn2⟩ : ∃ n2, n2 = (walkL l).order.length := ⟨_, rfl⟩
          rw [← hn2] at y4
          have hn3 := Hid.intro hn2
          clear hW o1 o2 o3 r1 r2 r3 hn2 hlen9
          go_wp2_with fail
          all_goals first | omega | skip
          go_quiet (fail)
          go_wp2_with fail
          all_goals first | omega | skip
          refine bodyPost_ret (by simp [results, Try.results28, go_sem]; try rfl) rfl ?_
          exact ⟨a2, n2, c2, b 10, nb, hn3.out, rfl, hres.out _⟩
end Go.Proofs.Ytebbbefknfldoaa
/- equ.Cycle. -/
namespace Go.Proofs.Ytebbbefknfldoaa
open Go.ChangeShapes Go.WideShapes Go.ChangeAt Go.RowKit Go.Sort Go.Maps
set_option linter.unusedVariables false
set_option linter.unusedSimpArgs false
set_option maxRecDepth 100000
theorem info9 : (Try.prog.info? 9).map (fun i => (i.zero, i.size, i.bytes)) = some (some (.string ⟨#[]⟩), 1, 16) := by kernel_rfl
def CycN (l : List Eqv) (x : List UInt8) : Prop := ∃ i, i < l.length ∧ Ta.Cyc (adjF l) i ∧ nmOf l i = x
theorem back_has {l : List Eqv} (hnd : (l.map (·.1)).Nodup) (hl : l.length < Ta.big) (x : List UInt8) : (backF l (walkL l).back x).isSome = true ↔ CycN l x := by
  obtain ⟨h1, h2, h3⟩ := walk_right hnd hl
  constructor
  · intro h
    obtain ⟨z, hz⟩ := Option.isSome_iff_exists.1 h
    obtain ⟨i, hi, _, hn⟩ := backF_some l _ x z hz
    obtain ⟨h4, h5⟩ := (h2 i).1 hi
    exact ⟨i, h4, h5, hn⟩
  · rintro ⟨i, h4, h5, h6⟩
    cases hb : backF l (walkL l).back x with
    | some z => rfl
    | none => exact absurd h6 (backF_none l _ x hb i ((h2 i).2 ⟨h4, h5⟩))
theorem iter_ne {w : World} {b r n : Nat} {D : DataW Unit} {left : Lit → Bool} {cnt : Nat} (h : w.ranges Try.prog 9 intE b r n D left cnt) {lo : Nat} {T : TypeId} {sz : Nat} {v : Value} {m : Nat} {xs : List Value} (ho : w.ownsRow lo T sz v m xs) : some b ≠ v.ownBlock ∧ some r ≠ v.ownBlock := by
  obtain ⟨es, clock, since, seen, c0, hb, _, _, _, hr, _⟩ := h
  refine ⟨fun e => ?_, fun e => ?_⟩
  · obtain ⟨cur, hc⟩ := own_type ho e.symm
    rw [hb] at hc; cases hc
  · obtain ⟨cur, hc⟩ := own_type ho e.symm
    rw [hr] at hc; cases hc
structure CSt (w : World) (l : List Eqv) (B r nb : Nat) (D : DataW Unit) (ss : List (List UInt8)) (v5 : Value) (left : Lit → Bool) (cnt : Nat) (wr : World) : Prop where
  rg : wr.ranges Try.prog 9 intE B r nb D left cnt
  co : Collected D left ss
  own : wr.ownsRow w.heap.size 9 1 v5 ss.length (ss.map encStr)
  bel : Below w.heap.size w wr
  cnt : ss.length + cnt ≤ Maps.size D
  ge : w.heap.size ≤ r
theorem CSt.below {w : World} {l : List Eqv} {B r nb : Nat} {D : DataW Unit} {ss : List (List UInt8)} {v5 : Value} {left : Lit → Bool} {cnt : Nat} {wr w' : World} (h : CSt w l B r nb D ss v5 left cnt wr) (hb : Below wr.heap.size wr w') : CSt w l B r nb D ss v5 left cnt w' :=
  ⟨h.rg.kept (row := none) ⟨hb.os, hb.tape, hb.output, hb.size, fun k hk _ => hb.block k hk⟩ (by simp) (by simp), h.co, own_row h.own (k := none) (fun g _ e => by cases e) ⟨hb.os, hb.tape, hb.output, hb.size, fun k hk _ => hb.block k hk⟩, h.bel.trans (hb.mono h.bel.size), h.cnt, h.ge⟩
theorem CSt.step {w : World} {l : List Eqv} {B r nb : Nat} {D : DataW Unit} {ss : List (List UInt8)} {v5 v5' : Value} {left : Lit → Bool} {cnt cnt2 : Nat} {wr w2 w3 w4 : World} (h : CSt w l B r nb D ss v5 left cnt wr) {x : List UInt8} {y : DataW Unit} (hlk : left (.string x) = true) (hat : ∀ zd, D.atKey (.string x) zd = y) (hrg : w2.ranges Try.prog 9 intE B r nb D (fun z => left z && !z.sameKey (.string x)) cnt2) (hlt : cnt2 < cnt) (hg : wr.grownBy w2 (some r)) (hb : Below w2.heap.size w2 w3) (ho : w4.ownsRow w.heap.size 9 1 v5' (ss.length + 1) (ss.map encStr ++ [encStr x])) (hg4 : w3.grownBy w4 v5.ownBlock) : CSt w l B r nb D (ss ++ [x]) v5' (fun z => left z && !z.sameKey (.string x)) cnt2 w4 := by
  have h2 := iter_ne h.rg h.own
  have hrg3 := hrg.kept (row := none) (w' := w3) ⟨hb.os, hb.tape, hb.output, hb.size, fun k hk _ => hb.block k hk⟩ (by simp) (by simp)
  have hb3 := (h.bel.grown hg h.bel.size (fun g e => by cases e; exact h.ge)).trans (hb.mono (Nat.le_trans h.bel.size hg.size))
  refine ⟨hrg3.kept hg4 h2.1 h2.2, h.co.step hlk hat, by simpa using ho, hb3.grown hg4 hb3.size (fun g e => (h.own.lt g e).1), ?_, h.ge⟩
  have := h.cnt
  simp
  omega
end Go.Proofs.Ytebbbefknfldoaa
namespace Go.Proofs.Ytebbbefknfldoaa
open Go.ChangeShapes Go.WideShapes Go.ChangeAt Go.RowKit Go.Maps
set_option linter.unusedVariables false
set_option linter.unusedSimpArgs false
set_option maxRecDepth 100000
theorem info31 : (Try.prog.info? 31).map (fun i => (i.zero, i.size, i.bytes)) = some (some (.agg #[.string ⟨#[]⟩, .slice none 0 0, .int .u32 0]), 3, 48) := by kernel_rfl
def exOf (l : List Eqv) (i : Nat) : Lin := ((l[i]?).map (·.2)).getD ⟨[], 0⟩
theorem exOf_get {l : List Eqv} {i : Nat} {q : Eqv} (h : l[i]? = some q) : exOf l i = q.2 := by unfold exOf; rw [h]; rfl
def svF (l : List Eqv) (os : List Nat) : List UInt8 → Option Lin := os.foldl (fun F i => fun s => if s = nmOf l i then some (putN F (exOf l i)) else F s) (fun _ => none)
theorem svF_snoc (l : List Eqv) (os : List Nat) (i : Nat) : svF l (os ++ [i]) = fun s => if s = nmOf l i then some (putN (svF l os) (exOf l i)) else svF l os s := by
  unfold svF
  rw [List.foldl_append]
  rfl
def nmsOf (l : List Eqv) : List (List UInt8) := l.flatMap fun q => q.2.terms.map (·.name)
theorem mem_putN {F : List UInt8 → Option Lin} {x : Lin} {t : Tm} (h : t ∈ (putN F x).terms) : (∃ u ∈ x.terms, u.name = t.name ∧ F u.name = none) ∨ ∃ s e, F s = some e ∧ ∃ u ∈ e.terms, u.name = t.name := by
  obtain ⟨p, hp, y, hy, e⟩ := mem_sumN h
  rcases List.mem_append.1 hp with hp | hp
  · obtain ⟨u, hu, e2, he, rfl⟩ := partsF_mem hp
    obtain ⟨_, _, z, hz, hze⟩ := mem_timesT hy
    exact .inr ⟨_, e2, he, z, hz, hze.trans e⟩
  · rw [List.mem_singleton.1 hp] at hy
    obtain ⟨h1, h2⟩ := List.mem_filter.1 hy
    exact .inl ⟨y, h1, e, by cases hF : F y.name with | none => rfl | some z => rw [hF] at h2; cases h2⟩
theorem snoc_ind {α : Type} {P : List α → Prop} (h0 : P []) (h1 : ∀ l a, P l → P (l ++ [a])) (l : List α) : P l := by
  have : ∀ m : List α, P m.reverse := fun m => by
    induction m with
    | nil => exact h0
    | cons a m ih => rw [List.reverse_cons]; exact h1 _ _ ih
  have := this l.reverse
  rwa [List.reverse_reverse] at this
theorem svF_can (l : List Eqv) : ∀ (os : List Nat), ∀ s e, svF l os s = some e → CanL e ∧ ∀ t ∈ e.terms, t.name ∈ nmsOf l := by
  intro os
  refine snoc_ind (P := fun os => ∀ s e, svF l os s = some e → CanL e ∧ ∀ t ∈ e.terms, t.name ∈ nmsOf l) (fun s e h => by cases h) (fun os i ih => ?_) os
  · intro s e h
    rw [svF_snoc] at h
    dsimp only at h
    split at h
    · cases h
      refine ⟨putN_can _ _, fun t ht => ?_⟩
      rcases mem_putN ht with ⟨u, hu, e, _⟩ | ⟨s', e', he, u, hu, e⟩
      · rw [← e]
        unfold exOf at hu
        cases hq : l[i]? with
        | none => rw [hq] at hu; cases hu
        | some q =>
          rw [hq] at hu
          exact List.mem_flatMap.2 ⟨q, List.mem_of_getElem? hq, List.mem_map.2 ⟨u, hu, rfl⟩⟩
      · rw [← e]
        exact (ih s' e' he).2 u hu
    · exact ih s e h
def OutIs (w : World) (g n : Nat) (p : Nat → Prop) (o : Nat → List UInt8 × Value × Int) : Prop := ∃ cur : Array Value, w.heap[g]? = some (.cells cur 31 (0, 0)) ∧ cur.size = n * 3 ∧ ∀ j, j < n → p j → cur[j * 3]? = some (.string (str (o j).1)) ∧ cur[j * 3 + 1]? = some (o j).2.1 ∧ cur[j * 3 + 2]? = some (.int .u32 (o j).2.2)
theorem OutIs.kept {w w' : World} {g n : Nat} {p : Nat → Prop} {o : Nat → List UInt8 × Value × Int} {k : Option Nat} (h : OutIs w g n p o) (hg : w.grownBy w' k) (hk : k ≠ some g) : OutIs w' g n p o := by
  obtain ⟨cur, h1, h2⟩ := h
  exact ⟨cur, (hg.block g (wblk_lt h1) (fun e => hk e.symm)).trans h1, h2⟩
theorem three_set {w : World} {g : Nat} {T : TypeId} {cur : Array Value} (h : w.heap[g]? = some (.cells cur T (0, 0))) (j : Nat) (x y z : Value) :
    (((w.setCell ⟨g, j, none⟩ x).setCell ⟨g, j + 1, none⟩ y).setCell ⟨g, j + 2, none⟩ z).heap[g]? = some (.cells (((cur.setIfInBounds j x).setIfInBounds (j + 1) y).setIfInBounds (j + 2) z) T (0, 0)) ∧ w.grownBy (((w.setCell ⟨g, j, none⟩ x).setCell ⟨g, j + 1, none⟩ y).setCell ⟨g, j + 2, none⟩ z) (some g) := by
  obtain ⟨a1, b1⟩ := row_set h j x
  obtain ⟨a2, b2⟩ := row_set a1 (j + 1) y
  obtain ⟨a3, b3⟩ := row_set a2 (j + 2) z
  refine ⟨a3, ⟨rfl, rfl, rfl, by simp, fun k hk hne => ?_⟩⟩
  have e1 := b1.block k hk hne
  have e2 := b2.block k (Nat.lt_of_lt_of_le hk b1.size) hne
  have e3 := b3.block k (Nat.lt_of_lt_of_le hk (Nat.le_trans b1.size b2.size)) hne
  exact e3.trans (e2.trans e1)
theorem OutIs.put {w : World} {g n : Nat} {p : Nat → Prop} {o : Nat → List UInt8 × Value × Int} (h : OutIs w g n p o) {i : Nat} (hi : i < n) (y : List UInt8 × Value × Int) :
    OutIs (((w.setCell ⟨g, i * 3, none⟩ (.string (str y.1))).setCell ⟨g, i * 3 + 1, none⟩ y.2.1).setCell ⟨g, i * 3 + 2, none⟩ (.int .u32 y.2.2)) g n (fun j => p j ∨ j = i) (fun j => if j = i then y else o j) ∧ w.grownBy (((w.setCell ⟨g, i * 3, none⟩ (.string (str y.1))).setCell ⟨g, i * 3 + 1, none⟩ y.2.1).setCell ⟨g, i * 3 + 2, none⟩ (.int .u32 y.2.2)) (some g) := by
  obtain ⟨cur, h1, h2, h3⟩ := h
  obtain ⟨a, b⟩ := three_set h1 (i * 3) (.string (str y.1)) y.2.1 (.int .u32 y.2.2)
  refine ⟨⟨_, a, by simp [h2], fun j hj hp => ?_⟩, b⟩
  by_cases hji : j = i
  · subst hji
    simp only [if_true, Array.getElem?_setIfInBounds]
    refine ⟨?_, ?_, ?_⟩
    · rw [if_neg (by omega), if_neg (by omega), if_pos (by omega)]
    · rw [if_neg (by omega), if_pos (by simp; omega)]
    · rw [if_pos (by simp; omega)]
  · simp only [hji, if_false, Array.getElem?_setIfInBounds]
    obtain ⟨c1, c2, c3⟩ := h3 j hj (hp.resolve_right hji)
    refine ⟨?_, ?_, ?_⟩
    · rw [if_neg (by omega), if_neg (by omega), if_neg (by omega)]; exact c1
    · rw [if_neg (by omega), if_neg (by omega), if_neg (by omega)]; exact c2
    · rw [if_neg (by omega), if_neg (by omega), if_neg (by omega)]; exact c3
structure SSt (w : World) (l : List Eqv) (os : List Nat) (ao : Option Addr) (co g B k : Nat) (v : Nat → Value) (wr : World) : Prop where
  bel : Below w.heap.size w wr
  ord : wr.ownsRow w.heap.size 3 1 (.slice ao os.length co) os.length (rowN os)
  out : OutIs wr g l.length (fun j => j ∈ os.take k) (fun j => (nmOf l j, v j, ((svF l (os.take k) (nmOf l j)).getD ⟨[], 0⟩).const))
  row : ∀ j ∈ os.take k, ∃ e, svF l (os.take k) (nmOf l j) = some e ∧ wr.ownsRow w.heap.size 49 2 (v j) e.terms.length (rowT e.terms)
  ap : ∀ i ∈ os.take k, ∀ j ∈ os.take k, i ≠ j → ∀ b, (v i).ownBlock = some b → (v j).ownBlock ≠ some b
  map : ∃ f, LnIs wr B k f ∧ ∀ s, (svF l (os.take k) s = none → f s = none) ∧ ∀ e, svF l (os.take k) s = some e → ∃ j ∈ os.take k, nmOf l j = s ∧ ∃ x : LV, f s = some x ∧ x.k = e.const ∧ v j = .slice x.a x.n x.c
  gg : w.heap.size ≤ g
  gB : w.heap.size ≤ B
section
variable {w : World} {l : List Eqv} {os : List Nat} {ao : Option Addr} {co g B k : Nat} {v : Nat → Value} {wr w' : World}
theorem SSt.below (h : SSt w l os ao co g B k v wr) (hb : Below wr.heap.size wr w') : SSt w l os ao co g B k v w' := by
  have hg : wr.grownBy w' none := ⟨hb.os, hb.tape, hb.output, hb.size, fun k hk _ => hb.block k hk⟩
  exact ⟨h.bel.trans (hb.mono h.bel.size), own_bel h.ord hb (Nat.le_refl _), h.out.kept hg (by simp), fun j hj => by obtain ⟨e, h1, h2⟩ := h.row j hj; exact ⟨e, h1, own_bel h2 hb (Nat.le_refl _)⟩, h.ap, by obtain ⟨f, h1, h2⟩ := h.map; exact ⟨f, h1.kept hg (by simp), h2⟩, h.gg, h.gB⟩
theorem SSt.lin (h : SSt w l os ao co g B k v wr) : LinMap wr B k (svF l (os.take k)) := by
  obtain ⟨f, h1, h2⟩ := h.map
  refine ⟨f, h1, fun s => ⟨(h2 s).1, fun e he => ?_⟩⟩
  obtain ⟨j, hj, hs, x, k1, k2, k3⟩ := (h2 s).2 e he
  obtain ⟨e', k4, k5⟩ := h.row j hj
  rw [hs, he] at k4
  cases k4
  rw [k3] at k5
  have hn := own_len k5
  refine ⟨x, k1, hn, k2, ?_⟩
  rw [hn] at k5
  exact own_tmLies k5
theorem out_type {w : World} {g n : Nat} {p : Nat → Prop} {o : Nat → List UInt8 × Value × Int} (h : OutIs w g n p o) {lo : Nat} {T : TypeId} {sz : Nat} {u : Value} {m : Nat} {xs : List Value} (ho : w.ownsRow lo T sz u m xs) (hT : T ≠ 31) : ∀ b, u.ownBlock = some b → some g ≠ some b := fun b e e' => by
  obtain ⟨cur, h1, _⟩ := h
  obtain ⟨cur2, h2⟩ := own_type ho e
  cases e'
  rw [h1] at h2
  injection h2 with h2
  injection h2 with _ h2
  exact hT h2.symm
theorem map_block {w : World} {b n : Nat} {f : List UInt8 → Option LV} (h : LnIs w b n f) {lo : Nat} {T : TypeId} {sz : Nat} {u : Value} {m : Nat} {xs : List Value} (ho : w.ownsRow lo T sz u m xs) : ∀ g, u.ownBlock = some g → some b ≠ some g := fun g e e' => by
  obtain ⟨es, clock, h1⟩ := h.isMap
  obtain ⟨cur2, h2⟩ := own_type ho e
  cases e'
  rw [h1] at h2
  cases h2
abbrev set3 (w : World) (g i : Nat) (y : List UInt8 × Value × Int) : World := ((w.setCell ⟨g, i * 3, none⟩ (.string (str y.1))).setCell ⟨g, i * 3 + 1, none⟩ y.2.1).setCell ⟨g, i * 3 + 2, none⟩ (.int .u32 y.2.2)
theorem SSt.mid (h : SSt w l os ao co g B k v wr) {i : Nat} (hi : i < l.length) {w3 : World} {lo : Nat} {vn : Value} {e : Lin} (hb : Below wr.heap.size wr w3) (hlo : wr.heap.size ≤ lo) (ho : w3.ownsRow lo 49 2 vn e.terms.length (rowT e.terms)) :
    ∃ f, LnIs (set3 w3 g i (nmOf l i, vn, e.const)) B k f ∧ (∀ s, (svF l (os.take k) s = none → f s = none) ∧ ∀ e, svF l (os.take k) s = some e → ∃ j ∈ os.take k, nmOf l j = s ∧ ∃ x : LV, f s = some x ∧ x.k = e.const ∧ v j = .slice x.a x.n x.c) ∧ (set3 w3 g i (nmOf l i, vn, e.const)).cell? ⟨g, i * 3 + 1, none⟩ = some vn ∧ (set3 w3 g i (nmOf l i, vn, e.const)).cell? ⟨g, i * 3 + 2, none⟩ = some (.int .u32 e.const) ∧
    (∀ j, j < 3 → w3.frozen? ⟨g, i * 3 + j, none⟩ = false ∧ ∃ u, w3.cell? ⟨g, i * 3 + j, none⟩ = some u) := by
  have h3 := h.below hb
  obtain ⟨f, m1, m2⟩ := h3.map
  obtain ⟨o1, hg⟩ := h3.out.put hi (nmOf l i, vn, e.const)
  obtain ⟨cur, c1, c2, _⟩ := h3.out
  have hne : some B ≠ some g := fun e => by
    obtain ⟨es, clock, hm⟩ := m1.isMap
    cases e
    rw [hm] at c1; cases c1
  obtain ⟨cur', d1, d2, d3⟩ := o1
  obtain ⟨_, d5, d6⟩ := d3 i hi (.inr rfl)
  simp only [if_true] at d5 d6
  refine ⟨f, m1.kept hg hne, m2, ?_, ?_, fun j hj => ⟨frozen_of_row w3 g _ cur 31 c1, ?_⟩⟩
  · rw [cell_of_row _ g _ cur' 31 (0, 0) d1]; exact d5
  · rw [cell_of_row _ g _ cur' 31 (0, 0) d1]; exact d6
  · rw [cell_of_row _ g _ cur 31 (0, 0) c1]
    exact ⟨_, Array.getElem?_eq_getElem (by omega)⟩
theorem SSt.step (h : SSt w l os ao co g B k v wr) (hnd : (l.map (·.1)).Nodup) (hin : ∀ j ∈ os, j < l.length) {i : Nat} (hk : os[k]? = some i) (hni : i ∉ os.take k) {w3 w5 : World} {lo : Nat} {x : LV} {e : Lin} (he : e = putN (svF l (os.take k)) (exOf l i)) (hb : Below wr.heap.size wr w3) (hlo : wr.heap.size ≤ lo) (hx : x.k = e.const) (ho : w3.ownsRow lo 49 2 (.slice x.a x.n x.c) e.terms.length (rowT e.terms)) {f : List UInt8 → Option LV}
    (hf : ∀ s, (svF l (os.take k) s = none → f s = none) ∧ ∀ e, svF l (os.take k) s = some e → ∃ j ∈ os.take k, nmOf l j = s ∧ ∃ x : LV, f s = some x ∧ x.k = e.const ∧ v j = .slice x.a x.n x.c) (hm : LnIs w5 B (k + 1) (fun s => if s = nmOf l i then some x else f s)) (hg5 : (set3 w3 g i (nmOf l i, .slice x.a x.n x.c, e.const)).grownBy w5 (some B)) : SSt w l os ao co g B (k + 1) (fun j => if j = i then .slice x.a x.n x.c else v j) w5 := by
  have hii : i < l.length := hin i (List.mem_of_getElem? hk)
  have htk : os.take (k + 1) = os.take k ++ [i] := by rw [List.take_add_one, hk]; rfl
  have hmem : ∀ j, j ∈ os.take (k + 1) ↔ (j ∈ os.take k ∨ j = i) := fun j => by rw [htk]; simp
  have h3 := h.below hb
  obtain ⟨f0, m1, _⟩ := h3.map
  obtain ⟨o1, hg4⟩ := h3.out.put hii (nmOf l i, .slice x.a x.n x.c, e.const)
  have hsz : w3.heap.size ≤ (set3 w3 g i (nmOf l i, .slice x.a x.n x.c, e.const)).heap.size := hg4.size
  have hsv : svF l (os.take (k + 1)) = fun s => if s = nmOf l i then some e else svF l (os.take k) s := by rw [htk, svF_snoc, he]
  have hnn : ∀ j ∈ os.take k, nmOf l j ≠ nmOf l i := fun j hj e => hni (by rw [← nm_inj hnd (hin j (List.mem_of_mem_take hj)) hii e]; exact hj)
  have hmB : ∀ {T sz u m xs lo}, w3.ownsRow lo T sz u m xs → T ≠ 31 → w5.ownsRow lo T sz u m xs := fun {T sz u m xs lo} hu hT => by
    have h4 := own_row hu (out_type h3.out hu hT) hg4
    exact own_row h4 (fun g' e' e'' => map_block m1 hu g' e' e'') hg5
  have hgB : some B ≠ some g := fun e => by
    obtain ⟨es, clock, hm⟩ := m1.isMap
    obtain ⟨cur, c1, _⟩ := h3.out
    cases e
    rw [hm] at c1; cases c1
  refine ⟨(h3.bel.grown hg4 h3.bel.size (fun j hj => by cases hj; exact h.gg)).grown hg5 (Nat.le_trans h3.bel.size hsz) (fun j hj => by cases hj; exact h.gB), hmB h3.ord (by decide), ?_, fun j hj => ?_, ?_, ?_, h.gg, h.gB⟩
  · have o2 := o1.kept hg5 hgB
    obtain ⟨cur, c1, c2, c3⟩ := o2
    refine ⟨cur, c1, c2, fun j hj hp => ?_⟩
    have := c3 j hj ((hmem j).1 hp)
    rw [hsv]
    by_cases hji : j = i
    · subst hji
      simp only [if_true] at this ⊢
      exact this
    · have hjt : j ∈ os.take k := ((hmem j).1 hp).resolve_right hji
      simp only [hji, if_false, hnn j hjt] at this ⊢
      exact this
  · by_cases hji : j = i
    · subst hji
      refine ⟨e, by rw [hsv]; simp, ?_⟩
      simp only [if_true]
      exact own_weaken (hmB ho (by decide)) (Nat.le_trans h.bel.size hlo)
    · have hjt : j ∈ os.take k := ((hmem j).1 hj).resolve_right hji
      obtain ⟨e', k1, k2⟩ := h3.row j hjt
      refine ⟨e', by rw [hsv]; simp only [hnn j hjt, if_false]; exact k1, ?_⟩
      simp only [hji, if_false]
      exact hmB k2 (by decide)
  · have hold : ∀ j ∈ os.take k, ∀ b, (v j).ownBlock = some b → b < wr.heap.size := fun j hj b e => by
      obtain ⟨e', _, k2⟩ := h.row j hj
      exact (k2.lt b e).2
    intro a ha c hc hac b hab hcb
    by_cases hai : a = i
    · by_cases hci : c = i
      · exact hac (hai.trans hci.symm)
      · simp only [hai, if_true] at hab
        simp only [hci, if_false] at hcb
        have h1 := (ho.lt b hab).1
        have h2 := hold c (((hmem c).1 hc).resolve_right hci) b hcb
        omega
    · simp only [hai, if_false] at hab
      have h2 := hold a (((hmem a).1 ha).resolve_right hai) b hab
      by_cases hci : c = i
      · simp only [hci, if_true] at hcb
        have h1 := (ho.lt b hcb).1
        omega
      · simp only [hci, if_false] at hcb
        exact h.ap a (((hmem a).1 ha).resolve_right hai) c (((hmem c).1 hc).resolve_right hci) hac b hab hcb
  · refine ⟨_, hm, fun s => ?_⟩
    rw [hsv]
    by_cases hs : s = nmOf l i
    · simp only [hs, if_true]
      exact ⟨fun h => (by cases h), fun e' he' => (by cases he'; exact ⟨i, (hmem i).2 (.inr rfl), rfl, x, rfl, hx, by simp⟩)⟩
    · simp only [hs, if_false]
      refine ⟨(hf s).1, fun e' he' => ?_⟩
      obtain ⟨j, hj, k1, y, k2, k3, k4⟩ := (hf s).2 e' he'
      have hji : j ≠ i := fun e => hs (by rw [← k1, e])
      exact ⟨j, (hmem j).2 (.inl hj), k1, y, k2, k3, by simp only [hji, if_false]; exact k4⟩
end
end Go.Proofs.Ytebbbefknfldoaa
