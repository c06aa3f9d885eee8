/- equ.put's state in memory. -/
import Derived.Test.YtebbbefknfldoaaLinM
import Derived.Test.YtebbbefknfldoaaWk1
import Derived.Deep.RegionLaw
import Derived.Deep.DeepCutAuto
import Derived.Deep.DeepAppendWide
import Derived.Deep.QuietTactic
import Derived.BigQuiet
import Derived.WalkSmall
import Derived.WalkSpells
import Derived.Laws.Cover1
import Derived.Test.YtebbbefknfldoaaConcat
import Derived.Laws.Slices
import Derived.Maps.OwnSet
import Derived.Maps.OwnOps
import Derived.Test.YtebbbefknfldoaaWk5
/- The document's Add. -/
/- Two lists of terms, merged by name; for canonical lists that is their sum. -/
namespace Go.Proofs.Ytebbbefknfldoaa
set_option linter.unusedVariables false
def mrg : List Tm → List Tm → List Tm
  | [], ys => ys
  | x :: xs, [] => x :: xs
  | x :: xs, y :: ys =>
    if nlt x.name y.name = true then x :: mrg xs (y :: ys)
    else if nlt y.name x.name = true then y :: mrg (x :: xs) ys
    else emit x.name ((x.coef + y.coef) % 4294967296) (mrg xs ys)
termination_by xs ys => xs.length + ys.length
end Go.Proofs.Ytebbbefknfldoaa
/- The document's Times. -/
namespace Go.Proofs.Ytebbbefknfldoaa
open Go.ChangeShapes Go.WideShapes Go.ChangeAt Go.RowKit
set_option linter.unusedVariables false
set_option maxRecDepth 100000
theorem own_below' {w w' : World} {B : Nat} {e : TypeId} {size : Nat} {v : Value} {n : Nat} {xs : List Value} (h : w.ownsRow B e size v n xs) (hb : Below w.heap.size w w') : w'.ownsRow B e size v n xs := by
  obtain ⟨hl, h | ⟨g, cap, cur, hv, hbg, hg, r⟩⟩ := h
  · exact ⟨hl, .inl h⟩
  · exact ⟨hl, .inr ⟨g, cap, cur, hv, hbg, by rw [hb.block g (Array.getElem?_eq_some_iff.1 hg).1]; exact hg, r⟩⟩
structure OSt (w : World) (gr go lo : Nat) (kc : Int) (zs : List Tm) (v : Value) (wr : World) : Prop where
  res : Two wr gr 29 (.slice none 0 0) (.int .u32 0)
  out : Two wr go 29 v (.int .u32 kc)
  own : wr.ownsRow lo 49 2 v zs.length (rowT zs)
  bel : Below w.heap.size w wr
  l1 : w.heap.size ≤ gr
  l2 : gr < go
  l3 : go < lo
  l4 : lo ≤ wr.heap.size
theorem OSt.kept {w wr wr' : World} {gr go lo : Nat} {kc : Int} {zs : List Tm} {v : Value} (h : OSt w gr go lo kc zs v wr) (hb : Below wr.heap.size wr wr') : OSt w gr go lo kc zs v wr' :=
  ⟨h.res.below hb (by have := h.l2; have := h.l3; have := h.l4; omega), h.out.below hb (by have := h.l3; have := h.l4; omega), own_below' h.own hb, h.bel.trans (hb.mono h.bel.size), h.l1, h.l2, h.l3, Nat.le_trans h.l4 hb.size⟩
theorem OSt.push {w wr wa w3 : World} {gr go lo L c1 : Nat} {kc : Int} {zs : List Tm} {t : Tm} {a1 : Option Addr} {v2 : Value} (h : OSt w gr go lo kc zs (.slice a1 L c1) wr) (hL : L = zs.length) (hb : Below wr.heap.size wr wa)
    (hown : w3.ownsRow lo 49 2 v2 (L + 1) (rowT (zs ++ [t]))) (hg : wa.grownBy w3 (Value.slice a1 L c1).ownBlock) : OSt w gr go lo kc (zs ++ [t]) v2 (w3.setCell ⟨go, 0, none⟩ v2) := by
  have hk := h.kept hb
  have hnb : (Value.slice a1 L c1).ownBlock ≠ some gr := fun e => by have := (h.own.lt _ e).1; have := h.l2; have := h.l3; omega
  have hnb2 : (Value.slice a1 L c1).ownBlock ≠ some go := fun e => by have := (h.own.lt _ e).1; have := h.l3; omega
  have hr := hk.res.grown hg hnb
  have ho := hk.out.grown hg hnb2
  obtain ⟨s1, s2⟩ := two_put ho v2
  have hs3 := hg.size
  have h4 := hk.l4
  have h1 := h.l1
  have h2 := h.l2
  have h3 := h.l3
  refine ⟨hr.grown s2 (by simp; omega), s1, ?_, ?_, h.l1, h.l2, h.l3, by have := s2.size; omega⟩
  · rw [List.length_append, List.length_singleton, ← hL]
    exact own_low hown s2 (by omega)
  · refine Below.grown ?_ s2 (by have := hk.bel.size; omega) (fun j hj => by cases hj; omega)
    exact hk.bel.grown hg hk.bel.size (fun j hj => by have := (h.own.lt _ hj).1; omega)
theorem two_far {w wr wa w3 : World} {gr go lo L c1 : Nat} {kc : Int} {zs : List Tm} {a1 : Option Addr} (h : OSt w gr go lo kc zs (.slice a1 L c1) wr) (hb : Below wr.heap.size wr wa) (hg : wa.grownBy w3 (Value.slice a1 L c1).ownBlock) : Two w3 go 29 (.slice a1 L c1) (.int .u32 kc) :=
  (h.kept hb).out.grown hg (fun e => by have := (h.own.lt _ e).1; have := h.l3; omega)
theorem two_beside {w wr wa w3 : World} {gr go lo L c1 gx : Nat} {kc : Int} {zs : List Tm} {a1 : Option Addr} {v2 X Y : Value} {T : TypeId} (h : OSt w gr go lo kc zs (.slice a1 L c1) wr) (hX : Two wr gx T X Y) (hgx : gx < gr) (hb : Below wr.heap.size wr wa) (hg : wa.grownBy w3 (Value.slice a1 L c1).ownBlock) : Two (w3.setCell ⟨go, 0, none⟩ v2) gx T X Y := by
  have h2 := h.l2
  have h3 := h.l3
  have h4 := h.l4
  obtain ⟨_, s2⟩ := two_put (two_far h hb hg) v2
  exact ((hX.below hb (by omega)).grown hg (fun e => by have := (h.own.lt _ e).1; omega)).grown s2 (by simp; omega)
end Go.Proofs.Ytebbbefknfldoaa
namespace Go.Proofs.Ytebbbefknfldoaa
open Go.ChangeShapes Go.WideShapes Go.ChangeAt Go.RowKit
set_option linter.unusedVariables false
set_option maxRecDepth 100000
structure BelowQ (w : World) where
  wd : World
  h : Below w.heap.size w wd
instance {w : World} : Inhabited (BelowQ w) := ⟨⟨w, Below.refl _ _⟩⟩
theorem BelowQ.cell {w : World} (p : BelowQ w) {a : Addr} {v : Value} (ha : a.block < w.heap.size) (h : w.cell? a = some v) : p.wd.cell? a = some v := by rw [p.h.cell ha]; exact h
structure ASt (w : World) (a1 a2 : Option Addr) (c1 c2 n1 n2 : Nat) (xs ys : List Tm) (k1 k2 kc : Int) (i j : Nat) (v : Value) (zs : List Tm) (wr : World) : Prop where
  o : OSt w (w.heap.size + 1 + 1) (w.heap.size + 1 + 1 + 1) (w.heap.size + 1 + 1 + 1 + 1) kc zs v wr
  x : Two wr w.heap.size 29 (.slice a1 n1 c1) (.int .u32 k1)
  y : Two wr (w.heap.size + 1) 29 (.slice a2 n2 c2) (.int .u32 k2)
  inv : zs ++ mrg (xs.drop i) (ys.drop j) = mrg xs ys
  len : zs.length ≤ i + j
theorem Two.lt' {w : World} {g : Nat} {T : TypeId} {x y : Value} (h : Two w g T x y) : g < w.heap.size := (Array.getElem?_eq_some_iff.1 h.heap).1
theorem ASt.kept {w wr wr' : World} {a1 a2 : Option Addr} {c1 c2 n1 n2 : Nat} {xs ys : List Tm} {k1 k2 kc : Int} {i j : Nat} {v : Value} {zs : List Tm} (h : ASt w a1 a2 c1 c2 n1 n2 xs ys k1 k2 kc i j v zs wr) (hb : Below wr.heap.size wr wr') : ASt w a1 a2 c1 c2 n1 n2 xs ys k1 k2 kc i j v zs wr' :=
  ⟨h.o.kept hb, h.x.below hb h.x.lt', h.y.below hb h.y.lt', h.inv, h.len⟩
theorem ASt.push {w wr wa w3 : World} {a1 a2 : Option Addr} {c1 c2 n1 n2 : Nat} {xs ys : List Tm} {k1 k2 kc : Int} {i j i' j' L d : Nat} {b : Option Addr} {zs : List Tm} {t : Tm} {v2 : Value} (h : ASt w a1 a2 c1 c2 n1 n2 xs ys k1 k2 kc i j (.slice b L d) zs wr) (hL : L = zs.length) (hb : Below wr.heap.size wr wa)
    (hown : w3.ownsRow (w.heap.size + 1 + 1 + 1 + 1) 49 2 v2 (L + 1) (rowT (zs ++ [t]))) (hg : wa.grownBy w3 (Value.slice b L d).ownBlock) (hinv : mrg (xs.drop i) (ys.drop j) = t :: mrg (xs.drop i') (ys.drop j')) (hlen : i + j + 1 ≤ i' + j') :
    ASt w a1 a2 c1 c2 n1 n2 xs ys k1 k2 kc i' j' v2 (zs ++ [t]) (w3.setCell ⟨w.heap.size + 1 + 1 + 1, 0, none⟩ v2) :=
  ⟨h.o.push hL hb hown hg, two_beside h.o h.x (by omega) hb hg, two_beside h.o h.y (by omega) hb hg, by rw [List.append_assoc, List.singleton_append, ← hinv, h.inv], by have := h.len; simp; omega⟩
theorem ASt.skip {w wr : World} {a1 a2 : Option Addr} {c1 c2 n1 n2 : Nat} {xs ys : List Tm} {k1 k2 kc : Int} {i j i' j' : Nat} {v : Value} {zs : List Tm} (h : ASt w a1 a2 c1 c2 n1 n2 xs ys k1 k2 kc i j v zs wr) (hinv : mrg (xs.drop i) (ys.drop j) = mrg (xs.drop i') (ys.drop j')) (hlen : i + j ≤ i' + j') : ASt w a1 a2 c1 c2 n1 n2 xs ys k1 k2 kc i' j' v zs wr :=
  ⟨h.o, h.x, h.y, by rw [← hinv]; exact h.inv, Nat.le_trans h.len hlen⟩
end Go.Proofs.Ytebbbefknfldoaa
/- Sums of several expressions, and what Put makes, as functions on lists: plain facts. -/
namespace Go.Proofs.Ytebbbefknfldoaa
set_option linter.unusedVariables false
set_option linter.unusedSimpArgs false
theorem nodup_le {α : Type} [DecidableEq α] : ∀ (l m : List α), l.Nodup → (∀ x ∈ l, x ∈ m) → l.length ≤ m.length
  | [], m, _, _ => Nat.zero_le _
  | x :: l, m, hn, hs => by
    obtain ⟨hx, hl⟩ := List.nodup_cons.1 hn
    have hm := hs x (by simp)
    have h1 := nodup_le l (m.erase x) hl (fun y hy => (List.mem_erase_of_ne (fun e => hx (by rw [← e]; exact hy))).2 (hs y (by simp [hy])))
    have h2 := List.length_erase_of_mem hm
    have h3 := List.length_pos_of_mem hm
    simp only [List.length_cons]
    omega
theorem Canon.nodup {l : List Tm} (h : Canon l) : (l.map (·.name)).Nodup := by
  rw [List.Nodup, List.pairwise_map]
  exact h.rise.imp fun h e => nlt_ne h e
theorem canon_len {l : List Tm} (h : Canon l) {S : List (List UInt8)} (hs : ∀ t ∈ l, t.name ∈ S) : l.length ≤ S.length := by
  have := nodup_le _ S h.nodup (fun x hx => by obtain ⟨t, ht, rfl⟩ := List.mem_map.1 hx; exact hs t ht)
  simpa using this
structure CanL (x : Lin) : Prop where
  terms : Canon x.terms
  const : 0 ≤ x.const ∧ x.const < 4294967296
def sumN (ps : List Lin) : Lin := ⟨norm (ps.flatMap (·.terms)), (ps.map (·.const)).sum % 4294967296⟩
theorem sumN_can (ps : List Lin) : CanL (sumN ps) := ⟨canon_norm _, by unfold sumN; dsimp only; omega⟩
theorem canL_ext {x y : Lin} (hx : CanL x) (hy : CanL y) (h : ∀ n, cfOf n x.terms % 4294967296 = cfOf n y.terms % 4294967296) (hc : x.const % 4294967296 = y.const % 4294967296) : x = y := by
  obtain ⟨a, b⟩ := x
  obtain ⟨c, d⟩ := y
  have h1 := hx.const
  have h2 := hy.const
  have e1 := canon_unique hx.terms hy.terms h
  dsimp only at *
  rw [e1, show b = d by omega]
theorem sumN_one {p : Lin} (h : CanL p) : sumN [p] = p := by
  obtain ⟨a, b⟩ := p
  have h2 := h.const
  have e := norm_canon h.terms
  unfold sumN
  simp only [List.flatMap_cons, List.flatMap_nil, List.append_nil, List.map_cons, List.map_nil, List.sum_cons, List.sum_nil, Int.add_zero]
  dsimp only at *
  rw [e, Int.emod_eq_of_lt h2.1 h2.2]
theorem sumN_append (a b : List Lin) : sumN (a ++ b) = ⟨addT (sumN a).terms (sumN b).terms, ((sumN a).const + (sumN b).const) % 4294967296⟩ := by
  unfold sumN
  simp only [List.flatMap_append, List.map_append, List.sum_append]
  congr 1
  · refine canon_unique (canon_norm _) (canon_add _ _) fun n => ?_
    rw [cf_norm, cf_add, cfOf_append]
    have h1 := cf_norm n (a.flatMap (·.terms))
    have h2 := cf_norm n (b.flatMap (·.terms))
    omega
  · omega
theorem mem_gather {t : Tm} : ∀ {l : List Tm}, t ∈ gather l → ∃ x ∈ l, x.name = t.name
  | [], h => by cases h
  | a :: l, h => by
    rw [gather_gat] at h
    rcases mem_gat h with e | h
    · exact ⟨a, by simp, e.symm⟩
    · exact h
theorem mem_norm {t : Tm} {l : List Tm} (h : t ∈ norm l) : ∃ x ∈ l, x.name = t.name := by
  obtain ⟨x, hx, e⟩ := mem_gather h
  exact ⟨x, (List.mergeSort_perm l leT).mem_iff.1 hx, e⟩
theorem mem_sumN {t : Tm} {ps : List Lin} (h : t ∈ (sumN ps).terms) : ∃ p ∈ ps, ∃ x ∈ p.terms, x.name = t.name := by
  obtain ⟨x, hx, e⟩ := mem_norm h
  obtain ⟨p, hp, hx⟩ := List.mem_flatMap.1 hx
  exact ⟨p, hp, x, hx, e⟩
def mulL (x : Lin) (n : Int) : Lin := ⟨timesT x.terms n, x.const * n % 4294967296⟩
theorem mulL_can {x : Lin} (h : CanL x) (n : Int) : CanL (mulL x n) := ⟨canon_times h.terms n, by unfold mulL; dsimp only; omega⟩
def partsF (F : List UInt8 → Option Lin) (ts : List Tm) : List Lin := ts.filterMap fun t => (F t.name).map fun e => mulL e t.coef
def restF (F : List UInt8 → Option Lin) (ts : List Tm) : List Tm := ts.filter fun t => (F t.name).isNone
def putN (F : List UInt8 → Option Lin) (x : Lin) : Lin := sumN (partsF F x.terms ++ [⟨restF F x.terms, x.const⟩])
theorem putN_can (F : List UInt8 → Option Lin) (x : Lin) : CanL (putN F x) := sumN_can _
theorem partsF_some {F : List UInt8 → Option Lin} {ts : List Tm} {i : Nat} {t : Tm} {e : Lin} (ht : ts[i]? = some t) (h : F t.name = some e) : partsF F (ts.take (i + 1)) = partsF F (ts.take i) ++ [mulL e t.coef] ∧ restF F (ts.take (i + 1)) = restF F (ts.take i) := by
  unfold partsF restF
  rw [List.take_add_one, ht, List.filterMap_append, List.filter_append]
  simp [h]
theorem partsF_none {F : List UInt8 → Option Lin} {ts : List Tm} {i : Nat} {t : Tm} (ht : ts[i]? = some t) (h : F t.name = none) : partsF F (ts.take (i + 1)) = partsF F (ts.take i) ∧ restF F (ts.take (i + 1)) = restF F (ts.take i) ++ [t] := by
  unfold partsF restF
  rw [List.take_add_one, ht, List.filterMap_append, List.filter_append]
  simp [h]
theorem canon_filter {l : List Tm} (h : Canon l) (p : Tm → Bool) : Canon (l.filter p) := ⟨h.rise.filter p, fun t ht => h.some t (List.mem_filter.1 ht).1⟩
theorem rest_can {F : List UInt8 → Option Lin} {x : Lin} (h : CanL x) (k : Nat) : CanL ⟨restF F (x.terms.take k), x.const⟩ := ⟨canon_filter ⟨h.terms.rise.sublist (List.take_sublist _ _), fun t ht => h.terms.some t (List.mem_of_mem_take ht)⟩ _, h.const⟩
theorem partsF_mem {F : List UInt8 → Option Lin} {ts : List Tm} {p : Lin} (h : p ∈ partsF F ts) : ∃ t ∈ ts, ∃ e, F t.name = some e ∧ p = mulL e t.coef := by
  obtain ⟨t, ht, h2⟩ := List.mem_filterMap.1 h
  cases he : F t.name with
  | none => rw [he] at h2; cases h2
  | some e => rw [he] at h2; exact ⟨t, ht, e, he, (Option.some.inj h2).symm⟩
end Go.Proofs.Ytebbbefknfldoaa
/- equ.sum. -/
namespace Go.Proofs.Ytebbbefknfldoaa
open Go.ChangeShapes Go.WideShapes Go.ChangeAt Go.RowKit
set_option linter.unusedVariables false
set_option linter.unusedSimpArgs false
set_option maxRecDepth 100000
def PartsAt (w : World) (lo : Nat) (a : Option Addr) (ps : List Lin) : Prop := ∃ g o, a = some ⟨g, o, none⟩ ∧ g < w.heap.size ∧ ∀ i p, ps[i]? = some p → ∃ v, w.cell? ⟨g, o + i * 2, none⟩ = some v ∧ w.cell? ⟨g, o + i * 2 + 1, none⟩ = some (.int .u32 p.const) ∧ w.ownsRow lo 49 2 v p.terms.length (rowT p.terms)
theorem own_bel {w w' : World} {lo B : Nat} {T : TypeId} {sz : Nat} {v : Value} {n : Nat} {xs : List Value} (h : w.ownsRow lo T sz v n xs) (hb : Below B w w') (hB : w.heap.size ≤ B) : w'.ownsRow lo T sz v n xs := by
  refine ⟨h.1, ?_⟩
  rcases h.2 with hx | ⟨g, cap, cur, k1, k2, k3, k4⟩
  · exact .inl hx
  · have := (Array.getElem?_eq_some_iff.1 k3).1
    exact .inr ⟨g, cap, cur, k1, k2, (hb.block g (by omega)).trans k3, k4⟩
theorem PartsAt.below {w w' : World} {lo : Nat} {a : Option Addr} {ps : List Lin} (h : PartsAt w lo a ps) (hb : Below w.heap.size w w') : PartsAt w' lo a ps := by
  obtain ⟨g, o, ha, hg, h⟩ := h
  refine ⟨g, o, ha, Nat.lt_of_lt_of_le hg hb.size, fun i p hi => ?_⟩
  obtain ⟨v, h1, h2, h3⟩ := h i p hi
  exact ⟨v, (hb.cell (p := ⟨g, _, none⟩) hg).trans h1, (hb.cell (p := ⟨g, _, none⟩) hg).trans h2, own_bel h3 hb (Nat.le_refl _)⟩
theorem cut_h (a : Option Addr) (len c n : Nat) (h : n ≤ c) (w : World) : (Instr.slice 87 (.slice a len c) none (some (.int .i64 (n : Int))) none).run Try.prog w = .ok (.slice a n c) w := by
  rw [run_slice_h w 87 a len c (by kernel_rfl) .i64 (n : Int) (by omega) (by omega)]
  have : (sizeOf (Try.prog.elem 87)).run Try.prog w = .ok 2 w := by kernel_rfl
  rw [this]
  simp only [Result.andThen, sliced]
  cases a with
  | none => simp
  | some a => simp [Addr.add]
theorem cut_hAt (a : Option Addr) (len c n : Nat) (h : n ≤ c) (w : World) : (Instr.sliceAt 87 (.slice a len c) none (some (.int .i64 (n : Int))) none).run Try.prog w = .ok (.slice a n c) w := by
  rw [run_sliceAt_slice w 87 _ _ _ _ (by kernel_rfl)]
  exact cut_h a len c n h w
theorem cut_l (g o len c n : Nat) (h : n < len) (h2 : len ≤ c) (w : World) : (Instr.slice 87 (.slice (some ⟨g, o, none⟩) len c) (some (.int .i64 (n : Int))) none none).run Try.prog w = .ok (.slice (some ⟨g, o + n * 2, none⟩) (len - n) (c - n)) w := by
  rw [run_slice_l w 87 (some ⟨g, o, none⟩) len c (by kernel_rfl) .i64 (n : Int) (by omega) (by omega)]
  have : (sizeOf (Try.prog.elem 87)).run Try.prog w = .ok 2 w := by kernel_rfl
  rw [this]
  simp only [Result.andThen, sliced]
  have : n ≠ c := by omega
  simp [Addr.add]
  rw [if_neg (by omega)]
  by_cases hz : n * 2 = 0
  · rw [if_pos hz, show o + n * 2 = o by omega]
  · rw [if_neg hz]
theorem cut_lAt (g o len c n : Nat) (h : n < len) (h2 : len ≤ c) (w : World) : (Instr.sliceAt 87 (.slice (some ⟨g, o, none⟩) len c) (some (.int .i64 (n : Int))) none none).run Try.prog w = .ok (.slice (some ⟨g, o + n * 2, none⟩) (len - n) (c - n)) w := by
  rw [run_sliceAt_slice w 87 _ _ _ _ (by kernel_rfl)]
  exact cut_l g o len c n h h2 w
set_option maxHeartbeats 8000000 in
theorem sum_any (S : List (List UInt8)) (hS : S.length ≤ 4400000) : ∀ (m : Nat) (ps : List Lin), ps.length ≤ m → 0 < ps.length → (∀ p ∈ ps, CanL p ∧ ∀ t ∈ p.terms, t.name ∈ S) → ∀ (w : World) (a : Option Addr) (c lo : Nat), ps.length ≤ c → c ≤ 9223372036854775807 → lo ≤ w.heap.size → PartsAt w lo a ps →
    Calls Try.prog 47 #[.slice a ps.length c] w fun e w' => Below w.heap.size w w' ∧ ∃ v, e = .returned (linV v (sumN ps).const) ∧ w'.ownsRow lo 49 2 v (sumN ps).terms.length (rowT (sumN ps).terms)
  | 0, ps, hm, h0, hp, w, a, c, lo, hc, hc2, hlo, hP => by omega
  | m + 1, ps, hm, h0, hp, w, a, c, lo, hc, hc2, hlo, hP => by
    have hsl : ∀ qs : List Lin, (∀ p ∈ qs, p ∈ ps) → (sumN qs).terms.length ≤ 4400000 := fun qs hq => by
      refine Nat.le_trans (canon_len (sumN_can qs).terms (S := S) fun t ht => ?_) hS
      obtain ⟨p, hp1, x, hx, e⟩ := mem_sumN ht
      rw [← e]
      exact (hp p (hq p hp1)).2 x hx
    have hbw := below_alloc w (.cells #[.slice none 0 0, .int .u32 0] 29)
    have t0 := two_new w 29 (.slice none 0 0) (.int .u32 0)
    by_cases h1 : ps.length = 1
    · obtain ⟨p, rfl⟩ : ∃ p, ps = [p] := by
        match ps, h1 with
        | [p], _ => exact ⟨p, rfl⟩
      rw [sumN_one (hp p (by simp)).1]
      obtain ⟨g, o, rfl, hg, hP⟩ := hP
      obtain ⟨v, h2, h3, h4⟩ := hP 0 p rfl
      rw [Nat.zero_mul, Nat.add_zero] at h2 h3
      have d0 := (hbw.cell (p := ⟨g, o, none⟩) hg).trans h2
      have d1 := (hbw.cell (p := ⟨g, o + 1, none⟩) hg).trans h3
      have h4H := Hid.intro h4
      have hgn : ¬ w.heap.size = g := by omega
      have hgn2 : ¬ g = w.heap.size := by omega
      have hbH := Hid.intro hbw
      obtain ⟨_, x0, x1, xf0, xf1⟩ := t0
      obtain ⟨va, vc, rfl⟩ := own_slice h4
      obtain ⟨pn, hpn⟩ : ∃ pn, pn = p.terms.length := ⟨_, rfl⟩
      have hpH := Hid.intro hpn
      rw [← hpn] at h2 d0
      clear h4 hP hp hsl h2 h3 hbw hpn
      go_enter Try.func47, Try.ntmps47
      go_wp2
      all_goals first | omega | skip
      obtain ⟨_, z0, z1, _, _⟩ := two_new w 29 (.slice va pn vc) (.int .u32 p.const)
      refine bodyPost_ret (by simp [results, Try.results47, go_sem, z0, z1]; try rfl) rfl ?_
      exact ⟨below_alloc w _, _, rfl, by rw [hpH.out]; exact h4H.out.alloc _⟩
    · obtain ⟨g, o, rfl, hg, hPs⟩ := id hP
      obtain ⟨h, hh⟩ : ∃ h, h = ps.length / 2 := ⟨_, rfl⟩
      obtain ⟨n, hn⟩ : ∃ n, n = ps.length := ⟨_, rfl⟩
      have hh1 : 0 < h ∧ h < n := by omega
      have hh2 : h ≤ 9223372036854775807 := by omega
      have hP0 := hP.below hbw
      obtain ⟨W0, hW0⟩ : ∃ W0, W0 = w.alloc (.cells #[.slice none 0 0, .int .u32 0] 29) := ⟨_, rfl⟩
      have hs0 : W0.heap.size = w.heap.size + 1 := by rw [hW0]; simp
      rw [← hW0] at hP0 t0 hbw
      have htk : (ps.take h).length = h := by rw [List.length_take]; omega
      have hdr : (ps.drop h).length = n - h := by rw [List.length_drop]; omega
      have hAp : ∀ W, Below W0.heap.size W0 W → PartsAt W lo (some ⟨g, o, none⟩) (ps.take h) := fun W hB => by
        obtain ⟨g', o', e, h1, h2⟩ := hP0.below hB
        cases e
        exact ⟨g, o, rfl, h1, fun i p hi => h2 i p (by rw [List.getElem?_take] at hi; split at hi; exact hi; cases hi)⟩
      have hBp : ∀ W, Below W0.heap.size W0 W → PartsAt W lo (some ⟨g, o + h * 2, none⟩) (ps.drop h) := fun W hB => by
        obtain ⟨g', o', e, h1, h2⟩ := hP0.below hB
        cases e
        refine ⟨g, o + h * 2, rfl, h1, fun i p hi => ?_⟩
        rw [List.getElem?_drop] at hi
        obtain ⟨v, k1, k2, k3⟩ := h2 (h + i) p hi
        exact ⟨v, by rw [show o + h * 2 + i * 2 = o + (h + i) * 2 by omega]; exact k1, by rw [show o + h * 2 + i * 2 + 1 = o + (h + i) * 2 + 1 by omega]; exact k2, k3⟩
      have hlA := hsl (ps.take h) fun p hp => List.mem_of_mem_take hp
      have hlB := hsl (ps.drop h) fun p hp => List.mem_of_mem_drop hp
      have hsum := sumN_append (ps.take h) (ps.drop h)
      rw [List.take_append_drop] at hsum
      have iA := fun W lo2 hlo2 hPA => sum_any S hS m (ps.take h) (by omega) (by omega) (fun p hp1 => hp p (List.mem_of_mem_take hp1)) W (some ⟨g, o, none⟩) c lo2 (by omega) hc2 hlo2 hPA
      have iB := fun W lo2 hlo2 hPA => sum_any S hS m (ps.drop h) (by omega) (by omega) (fun p hp1 => hp p (List.mem_of_mem_drop hp1)) W (some ⟨g, o + h * 2, none⟩) (c - h) lo2 (by omega) (by omega) hlo2 hPA
      rw [htk] at iA
      rw [hdr] at iB
      generalize sumN (ps.take h) = A at *
      generalize sumN (ps.drop h) = B at *
      obtain ⟨na, hna⟩ : ∃ na, na = A.terms.length := ⟨_, rfl⟩
      obtain ⟨nb, hnb⟩ : ∃ nb, nb = B.terms.length := ⟨_, rfl⟩
      have hA : Hid (Calls Try.prog 47 #[.slice (some ⟨g, o, none⟩) h c] W0.drew fun e w1 => ∃ va vc, e = .returned (linV (.slice va na vc) A.const) ∧ Hid (w1.ownsRow lo 49 2 (.slice va na vc) na (rowT A.terms)) ∧ Hid (Below W0.heap.size W0 w1)) := by
        have hbd : Below W0.heap.size W0 W0.drew := (Below.refl _ W0).drew
        refine (iA W0.drew lo (by show lo ≤ W0.heap.size; omega) (hAp _ hbd)).mono ?_
        rintro e w1 ⟨hb1, v, rfl, ho⟩
        obtain ⟨va, vc, rfl⟩ := own_slice ho
        exact ⟨va, vc, by rw [hna], by show World.ownsRow _ _ _ _ _ _ _; rw [hna]; exact ho, hbd.trans hb1⟩
      have hB : Hid (∀ va vc w1, Hid (w1.ownsRow lo 49 2 (.slice va na vc) na (rowT A.terms)) → Hid (Below W0.heap.size W0 w1) → Calls Try.prog 47 #[.slice (some ⟨g, o + h * 2, none⟩) (n - h) (c - h)] w1 fun e w2 => ∃ vb cb, e = .returned (linV (.slice vb nb cb) B.const) ∧ Hid (w2.ownsRow lo 49 2 (.slice va na vc) na (rowT A.terms)) ∧ Hid (w2.ownsRow lo 49 2 (.slice vb nb cb) nb (rowT B.terms)) ∧ Hid (Below W0.heap.size W0 w2)) := fun va vc w1 ho1 hb1 => by
        refine (iB w1 lo (by have := hb1.out.size; omega) (hBp _ hb1.out)).mono ?_
        rintro e w2 ⟨hb2, v, rfl, ho⟩
        obtain ⟨vb, cb, rfl⟩ := own_slice ho
        exact ⟨vb, cb, by rw [hnb], own_bel ho1.out hb2 (Nat.le_refl _), by show World.ownsRow _ _ _ _ _ _ _; rw [hnb]; exact ho, hb1.out.trans (hb2.mono hb1.out.size)⟩
      have hC : Hid (∀ va vc vb cb w2, Hid (w2.ownsRow lo 49 2 (.slice va na vc) na (rowT A.terms)) → Hid (w2.ownsRow lo 49 2 (.slice vb nb cb) nb (rowT B.terms)) → Hid (Below W0.heap.size W0 w2) → Calls Try.prog 56 #[linV (.slice va na vc) A.const, linV (.slice vb nb cb) B.const] w2 fun e w3 => ∃ v3 n3 c3, e = .returned (linV (.slice v3 n3 c3) (sumN ps).const) ∧ Hid (w3.ownsRow (w.heap.size + 1) 49 2 (.slice v3 n3 c3) (sumN ps).terms.length (rowT (sumN ps).terms)) ∧ Hid (Below W0.heap.size W0 w3) ∧ w3.cell? ⟨w.heap.size, 0, none⟩ = some (.slice none 0 0) ∧ w3.cell? ⟨w.heap.size, 1, none⟩ = some (.int .u32 0) ∧ w3.frozen? ⟨w.heap.size, 0, none⟩ = false ∧ w3.frozen? ⟨w.heap.size, 1, none⟩ = false) := fun va vc vb cb w2 ho1 ho2 hb2 => by
        rw [hna] at ho1 ⊢
        rw [hnb] at ho2 ⊢
        refine (add_any va vb vc cb A.terms B.terms A.const B.const w2 (own_held ho1.out) (own_held ho2.out) hlA hlB).mono ?_
        rintro e w3 ⟨hb3, v, rfl, ho⟩
        obtain ⟨v3, c3, rfl⟩ := own_slice ho
        have hb4 := hb2.out.trans (hb3.mono hb2.out.size)
        obtain ⟨_, q0, q1, q2, q3⟩ := t0.below hb4 (by omega)
        rw [hsum]
        exact ⟨v3, _, c3, rfl, own_weaken ho (by have := hb2.out.size; omega), hb4, q0, q1, q2, q3⟩
      have hcut1 := cut_h (some ⟨g, o, none⟩) n c h (by omega)
      have hcut2 := cut_hAt (some ⟨g, o, none⟩) n c h (by omega)
      have hcut3 := cut_l g o n c h hh1.2 (by omega)
      have hcut4 := cut_lAt g o n c h hh1.2 (by omega)
      have hdv : ((n : Int)).tdiv 2 = (h : Int) := by rw [hh, ← hn]; rfl
      have hdv2 : ((n : Int)) / 2 = (h : Int) := by omega
      have hw1 : ¬ n = 1 := by omega
      have hlo2 := Hid.intro hlo
      have hbH := Hid.intro hbw
      have hs0H := Hid.intro hs0
      have t0H := Hid.intro t0
      rw [← hn] at *
      obtain ⟨h0, hh0⟩ : ∃ h0 : Nat, h0 = h := ⟨_, rfl⟩
      clear iA iB hAp hBp hP hPs hP0 hp hsl hsum hna hnb hlA hlB htk hdr hn hh t0 hbw hlo hs0
      generalize sumN ps = R at *
      go_enter Try.func47, Try.ntmps47
      go_upto_region 4 with fail
      all_goals first | omega | skip
      rw [← hW0]
      clear hW0
      go_region_held3 (fun _ => True) (trivial)
        ((first
          | (go_at_call 47; (with_reducible refine (hA.out).mono ?_); rintro e w1 ⟨va, vc, rfl, ho1, hb1⟩)
          | (go_at_call 47; (with_reducible refine (hB.out _ _ _ ho1 hb1).mono ?_); rintro e w2 ⟨vb, cb, rfl, ho2, ho3, hb2⟩)
          | (go_at_call 56; (with_reducible refine (hC.out _ _ _ _ _ ho2 ho3 hb2).mono ?_); rintro e w3 ⟨v3, n3, c3, rfl, ho4, hb3, q0, q1, q2, q3⟩)))
      obtain ⟨s1, s2⟩ := two_set (t0H.out.below hb3.out (by have := hs0H.out; omega)).heap rfl (.slice v3 n3 c3) (.int .u32 R.const)
      have hb4 : Below w.heap.size w ((w3.setCell ⟨w.heap.size, 0, none⟩ (.slice v3 n3 c3)).setCell ⟨w.heap.size, 1, none⟩ (.int .u32 R.const)) := (hbH.out.trans (hb3.out.mono (by have := hs0H.out; omega))).grown s2 (by have := hb3.out.size; have := hs0H.out; omega) (fun j hj => by cases hj; omega)
      generalize ((w3.setCell ⟨w.heap.size, 0, none⟩ (.slice v3 n3 c3)).setCell ⟨w.heap.size, 1, none⟩ (.int .u32 R.const)) = w4 at s1 s2 hb4 ⊢
      obtain ⟨_, z0, z1, _, _⟩ := s1
      go_wp2
      refine bodyPost_ret (by simp [results, Try.results47, go_sem, z0, z1]; try rfl) rfl ?_
      exact ⟨hb4, _, rfl, own_weaken (own_low ho4.out s2 (by omega)) (by have := hlo2.out; omega)⟩
end Go.Proofs.Ytebbbefknfldoaa
/- A map of names to expressions in memory: map[string]api.Lin. -/
namespace Go.Proofs.Ytebbbefknfldoaa
open Go.ChangeShapes Go.WideShapes Go.ChangeAt Go.RowKit Go.WideMaps Go.Maps
set_option linter.unusedVariables false
set_option maxRecDepth 100000
structure LV where
  a : Option Addr
  n : Nat
  c : Nat
  k : Int
abbrev LV.addr (x : LV) : Option Addr := x.a
abbrev LV.val (x : LV) : Value := .agg #[.slice x.a x.n x.c, .int .u32 x.k]
def spotD : Option Nat → DataW Unit
  | none => .nil
  | some s => .lit (.int .i64 s)
def addrD : Option Addr → DataW Unit
  | none => .nil
  | some p => .agg [.lit (.int .i64 p.block), .lit (.int .i64 p.off), spotD p.spot]
theorem spotD_inj : ∀ {x y : Option Nat}, spotD x = spotD y → x = y
  | none, none, _ => rfl
  | none, some y, h => by simp [spotD] at h
  | some x, none, h => by simp [spotD] at h
  | some x, some y, h => by simp [spotD] at h; rw [show x = y by omega]
theorem addrD_inj : ∀ {x y : Option Addr}, addrD x = addrD y → x = y
  | none, none, _ => rfl
  | none, some y, h => by simp [addrD] at h
  | some x, none, h => by simp [addrD] at h
  | some ⟨b, o, s⟩, some ⟨b', o', s'⟩, h => by
    simp only [addrD, DataW.agg.injEq, List.cons.injEq, DataW.lit.injEq, Lit.int.injEq, and_true, true_and] at h
    obtain ⟨h1, h2, h3⟩ := h
    rw [show b = b' by omega, show o = o' by omega, spotD_inj h3]
def LV.dat (x : LV) : DataW Unit := .agg [addrD x.a, .lit (.int .i64 x.n), .lit (.int .i64 x.c), .lit (.int .u32 x.k)]
theorem LV.dat_inj {x y : LV} (h : x.dat = y.dat) : x = y := by
  obtain ⟨a, n, c, k⟩ := x
  obtain ⟨a', n', c', k'⟩ := y
  simp only [LV.dat, DataW.agg.injEq, List.cons.injEq, DataW.lit.injEq, Lit.int.injEq, and_true, true_and] at h
  obtain ⟨h0, h1, h2, h3⟩ := h
  rw [addrD_inj h0, show n = n' by omega, show c = c' by omega, h3]
open Classical in
noncomputable def linE (v : Value) : Option (DataW Unit × List MemPlace) := if h : ∃ x : LV, v = x.val then some (h.choose.dat, []) else none
theorem LV.val_inj {x y : LV} (h : x.val = y.val) : x = y := by
  obtain ⟨a, n, c, k⟩ := x
  obtain ⟨a', n', c', k'⟩ := y
  simp only [LV.val, Value.agg.injEq, Array.mk.injEq, List.cons.injEq, Value.slice.injEq, Value.int.injEq, and_true, true_and] at h
  obtain ⟨⟨h0, h1, h2⟩, h3⟩ := h
  subst h0 h1 h2 h3
  rfl
theorem linE_mk (x : LV) : linE x.val = some (x.dat, []) := by
  have h : ∃ y : LV, x.val = y.val := ⟨x, rfl⟩
  unfold linE
  rw [dif_pos h]
  have := h.choose_spec
  rw [← LV.val_inj this]
theorem linE_inv {v : Value} {x : LV} {ps : List MemPlace} (h : linE v = some (x.dat, ps)) : v = x.val := by
  unfold linE at h
  split at h
  · next hx =>
    have h2 := hx.choose_spec
    have h3 : hx.choose.dat = x.dat := by
      injection h with h
      injection h
    rw [h2, LV.dat_inj h3]
  · cases h
def LV.zero : LV := ⟨none, 0, 0, 0⟩
theorem zero29 (w : World) : (zeroValue 29).run Try.prog w = .ok LV.zero.val w := by kernel_rfl
def LnIs (w : World) (b n : Nat) (f : List UInt8 → Option LV) : Prop :=
  ∃ D : DataW Unit, w.ownsMap Try.prog 9 linE b n D ∧ IsMap D ∧ ∀ s, has D (.string s) = (f s).isSome ∧ ∀ z, f s = some z → ∀ zd, D.atKey (.string s) zd = z.dat
theorem LnIs.lt {w : World} {b n : Nat} {f : List UInt8 → Option LV} (h : LnIs w b n f) : b < w.heap.size := by
  obtain ⟨D, h1, _⟩ := h
  exact h1.lt
theorem LnIs.kept {w w' : World} {b n : Nat} {row : Option Nat} {f : List UInt8 → Option LV} (h : LnIs w b n f) (hg : w.grownBy w' row) (hne : some b ≠ row) : LnIs w' b n f := by
  obtain ⟨D, h1, h2, h3⟩ := h
  exact ⟨D, h1.kept hg hne, h2, h3⟩
theorem lnlook_run {w : World} {b n : Nat} {f : List UInt8 → Option LV} (h : LnIs w b n f) (s : List UInt8) (hs : s.length ≤ 140737488355328) : (Instr.lookup 69 (.map (some b)) (.string (str s)) true).run Try.prog w = .ok (.tuple #[((f s).getD LV.zero).val, .bool (f s).isSome]) w := by
  obtain ⟨D, hown, hD1, hD2⟩ := h
  have hsz : (str s).size ≤ maxLen := by
    have h2 : (str s).size = s.length := by simp [str, ByteArray.size]
    unfold maxLen
    omega
  have hkey : keyOf Try.prog 9 (.string (str s)) = some (.string s) := keyOf_string_mk Try.underlying9 hsz
  obtain ⟨v, ps, hrun, hv⟩ := hown.look_ok lawS Try.underlying69 (zero29 w) (linE_mk LV.zero) hkey
  rw [hrun, (hD2 s).1]
  cases hf : f s with
  | some z =>
    rw [(hD2 s).2 z hf] at hv
    rw [linE_inv hv]
    rfl
  | none =>
    have hno : has D (.string s) = false := by rw [(hD2 s).1, hf]; rfl
    rw [atKey_of_not_has hno] at hv
    rw [linE_inv hv]
    rfl
theorem lnput_run {w : World} {b n : Nat} {f : List UInt8 → Option LV} (h : LnIs w b n f) (hn : n ≤ 3000000) (s : List UInt8) (z : LV) (hs : s.length ≤ 140737488355328) :
    ∃ w', (Instr.mapUpdate 69 (.map (some b)) (.string (str s)) z.val).run Try.prog w = .ok () w' ∧ LnIs w' b (n + 1) (fun x => if x = s then some z else f x) ∧ w.grownBy w' (some b) := by
  obtain ⟨D, hown, hD1, hD2⟩ := h
  have hsz : (str s).size ≤ maxLen := by
    have h2 : (str s).size = s.length := by simp [str, ByteArray.size]
    unfold maxLen
    omega
  have hkey : keyOf Try.prog 9 (.string (str s)) = some (.string s) := keyOf_string_mk Try.underlying9 hsz
  obtain ⟨w', hrun, r1, r2⟩ := hown.update lawS Try.underlying69 (by unfold maxLen; omega) hkey (linE_mk z)
  refine ⟨w', hrun, ⟨_, r1, hD1.put _ _, fun x => ?_⟩, r2⟩
  by_cases hx : x = s
  · subst hx
    simp only [if_true]
    refine ⟨by rw [has_put_same hD1 (show WideAt.IsKeyLit (.string x) from trivial)]; rfl, fun y hy zd => ?_⟩
    cases hy
    exact atKey_put_same hD1 (show WideAt.IsKeyLit (.string x) from trivial) _ _
  · have n1 : (Lit.string x) ≠ .string s := fun e => hx (by injection e)
    simp only [hx, if_false]
    refine ⟨by rw [has_put_other n1]; exact (hD2 x).1, fun y hy zd => ?_⟩
    rw [atKey_put_other n1]
    exact (hD2 x).2 y hy zd
theorem LnIs.made (w : World) : LnIs (w.alloc (.map #[] 0)) w.heap.size 0 (fun _ => none) := by
  refine ⟨_, World.ownsMap_made w Try.prog 9 linE, ?_, fun s => ⟨rfl, fun z hz => by cases hz⟩⟩
  exact (World.ownsMap_made w Try.prog 9 linE).isMap
def LinMap (w : World) (b n : Nat) (F : List UInt8 → Option Lin) : Prop := ∃ f, LnIs w b n f ∧ ∀ s, (F s = none → f s = none) ∧ ∀ e, F s = some e → ∃ x, f s = some x ∧ x.n = e.terms.length ∧ x.k = e.const ∧ TmLies w x.addr e.terms
theorem LinMap.below {w w' : World} {b n : Nat} {F : List UInt8 → Option Lin} (h : LinMap w b n F) (hb : Below w.heap.size w w') : LinMap w' b n F := by
  obtain ⟨f, h1, h2⟩ := h
  refine ⟨f, h1.kept (row := none) ⟨hb.os, hb.tape, hb.output, hb.size, fun k hk _ => hb.block k hk⟩ (by simp), fun s => ⟨(h2 s).1, fun e he => ?_⟩⟩
  obtain ⟨x, k1, k2, k3, k4⟩ := (h2 s).2 e he
  exact ⟨x, k1, k2, k3, k4.below hb (Nat.le_refl _)⟩
theorem LinMap.made (w : World) : LinMap (w.alloc (.map #[] 0)) w.heap.size 0 (fun _ => none) := ⟨_, LnIs.made w, fun s => ⟨fun _ => rfl, fun e he => by cases he⟩⟩
theorem LinMap.lt {w : World} {b n : Nat} {F : List UInt8 → Option Lin} (h : LinMap w b n F) : b < w.heap.size := by
  obtain ⟨f, h1, _⟩ := h
  exact h1.lt
theorem LnIs.isMap {w : World} {b n : Nat} {f : List UInt8 → Option LV} (h : LnIs w b n f) : ∃ es clock, w.heap[b]? = some (.map es clock) := by
  obtain ⟨D, ⟨es, clock, h1, _⟩, _⟩ := h
  exact ⟨es, clock, h1⟩
def eqF (l : List (List UInt8 × Lin)) : List UInt8 → Option Lin := l.foldl (fun f q => fun x => if x = q.1 then some q.2 else f x) (fun _ => none)
theorem eqF_take {l : List (List UInt8 × Lin)} {i : Nat} {q : List UInt8 × Lin} (h : l[i]? = some q) : eqF (l.take (i + 1)) = fun x => if x = q.1 then some q.2 else eqF (l.take i) x := by
  unfold eqF
  rw [List.take_add_one, h]
  simp [List.foldl_append]
theorem eqF_fold : ∀ (l : List (List UInt8 × Lin)) (g : List UInt8 → Option Lin) (x : List UInt8) (e : Lin), l.foldl (fun f q => fun x => if x = q.1 then some q.2 else f x) g x = some e → (∃ q ∈ l, q.1 = x ∧ q.2 = e) ∨ g x = some e
  | [], g, x, e, h => .inr h
  | q :: l, g, x, e, h => by
    rcases eqF_fold l _ x e h with ⟨r, h1, h2⟩ | h1
    · exact .inl ⟨r, by simp [h1], h2⟩
    · dsimp only at h1
      split at h1
      · next hx => exact .inl ⟨q, by simp, hx.symm, Option.some.inj h1⟩
      · exact .inr h1
theorem eqF_some {l : List (List UInt8 × Lin)} {x : List UInt8} {e : Lin} (h : eqF l x = some e) : ∃ q ∈ l, q.1 = x ∧ q.2 = e := by
  rcases eqF_fold l _ x e h with h | h
  · exact h
  · cases h
end Go.Proofs.Ytebbbefknfldoaa
namespace Go.Proofs.Ytebbbefknfldoaa
open Go.ChangeShapes Go.WideShapes Go.ChangeAt Go.RowKit
set_option linter.unusedVariables false
set_option linter.unusedSimpArgs false
set_option maxRecDepth 100000
theorem info29 : (Try.prog.info? 29).map (fun i => (i.zero, i.size, i.bytes)) = some (some (.agg #[.slice none 0 0, .int .u32 0]), 2, 32) := by kernel_rfl
def rowP (qs : List (Lin × Value)) : List Value := qs.flatMap fun q => [q.2, .int .u32 q.1.const]
theorem rowP_push (qs : List (Lin × Value)) (q : Lin × Value) : rowP (qs ++ [q]) = rowP qs ++ [q.2, .int .u32 q.1.const] := by simp [rowP]
theorem rowP_get : ∀ (qs : List (Lin × Value)) (i : Nat) (q : Lin × Value), qs[i]? = some q → (rowP qs)[i * 2]? = some q.2 ∧ (rowP qs)[i * 2 + 1]? = some (.int .u32 q.1.const)
  | [], i, q, h => by cases h
  | x :: l, 0, q, h => by
    have : x = q := by simpa using h
    subst this
    exact ⟨rfl, rfl⟩
  | x :: l, i + 1, q, h => by
    obtain ⟨h1, h2⟩ := rowP_get l i q (by simpa using h)
    have e : rowP (x :: l) = x.2 :: .int .u32 x.1.const :: rowP l := rfl
    rw [e, show (i + 1) * 2 = i * 2 + 1 + 1 by omega]
    exact ⟨h1, h2⟩
theorem own_ne {w w' : World} {lo : Nat} {T : TypeId} {sz : Nat} {v : Value} {n : Nat} {xs : List Value} {k : Option Nat} (h : w.ownsRow lo T sz v n xs) (hk : ∀ g, v.ownBlock = some g → k ≠ some g) (hg : w.grownBy w' k) : w'.ownsRow lo T sz v n xs := own_row h hk hg
theorem own_types {w : World} {lo lo' : Nat} {T T' : TypeId} {sz sz' : Nat} {v v' : Value} {n n' : Nat} {xs xs' : List Value} (h : w.ownsRow lo T sz v n xs) (h' : w.ownsRow lo' T' sz' v' n' xs') (hT : T ≠ T') : ∀ g, v.ownBlock = some g → v'.ownBlock ≠ some g := fun g e e' => by
  obtain ⟨c1, h1⟩ := own_type h e
  obtain ⟨c2, h2⟩ := own_type h' e'
  rw [h1] at h2
  injection h2 with h2
  injection h2 with _ h2
  exact hT h2
structure PSt (w : World) (F : List UInt8 → Option Lin) (x : Lin) (i : Nat) (qs : List (Lin × Value)) (v6 vr : Value) (wr : World) : Prop where
  le : i ≤ x.terms.length
  res : Two wr (w.heap.size + 1) 29 (.slice none 0 0) (.int .u32 0)
  rst : Two wr (w.heap.size + 1 + 1) 29 vr (.int .u32 x.const)
  ro : wr.ownsRow (w.heap.size + 1 + 1 + 1) 49 2 vr (restF F (x.terms.take i)).length (rowT (restF F (x.terms.take i)))
  ps : qs.map Prod.fst = partsF F (x.terms.take i)
  po : wr.ownsRow (w.heap.size + 1 + 1 + 1) 29 2 v6 qs.length (rowP qs)
  qo : ∀ q ∈ qs, wr.ownsRow (w.heap.size + 1 + 1 + 1) 49 2 q.2 q.1.terms.length (rowT q.1.terms) ∧ ∀ g, q.2.ownBlock = some g → vr.ownBlock ≠ some g
  bel : Below w.heap.size w wr
  size : w.heap.size + 1 + 1 + 1 ≤ wr.heap.size
section
variable {w : World} {F : List UInt8 → Option Lin} {x : Lin} {i : Nat} {qs : List (Lin × Value)} {v6 vr : Value} {wr w' : World}
theorem PSt.below (h : PSt w F x i qs v6 vr wr) (hb : Below wr.heap.size wr w') : PSt w F x i qs v6 vr w' := by
  have hs := h.size
  exact ⟨h.le, h.res.below hb (by omega), h.rst.below hb (by omega), own_bel h.ro hb (Nat.le_refl _), h.ps, own_bel h.po hb (Nat.le_refl _), fun q hq => ⟨own_bel (h.qo q hq).1 hb (Nat.le_refl _), (h.qo q hq).2⟩, h.bel.trans (hb.mono h.bel.size), Nat.le_trans hs hb.size⟩
theorem PSt.part (h : PSt w F x i qs v6 vr wr) {t : Tm} {e : Lin} (ht : x.terms[i]? = some t) (he : F t.name = some e) {lo : Nat} {vn v6' : Value} (hlo : wr.heap.size ≤ lo) {w1 : World} (hb : Below wr.heap.size wr w1) (hn : w1.ownsRow lo 49 2 vn (mulL e t.coef).terms.length (rowT (mulL e t.coef).terms)) (ho : w'.ownsRow (w.heap.size + 1 + 1 + 1) 29 2 v6' (qs.length + 1) (rowP qs ++ [vn, .int .u32 (mulL e t.coef).const])) (hg : w1.grownBy w' v6.ownBlock) :
    PSt w F x (i + 1) (qs ++ [(mulL e t.coef, vn)]) v6' vr w' := by
  obtain ⟨e1, e2⟩ := partsF_some ht he
  have h1 := h.below hb
  have hs := h.size
  have hk : ∀ g, v6.ownBlock = some g → w.heap.size + 1 + 1 + 1 ≤ g := fun g e => (h1.po.lt g e).1
  have hi := (List.getElem?_eq_some_iff.1 ht).1
  refine ⟨hi, h1.res.grown hg (fun e => by have := hk _ e; omega), h1.rst.grown hg (fun e => by have := hk _ e; omega), ?_, ?_, ?_, fun q hq => ?_, h1.bel.grown hg h1.bel.size (fun g e => by have := hk g e; omega), Nat.le_trans h1.size hg.size⟩
  · rw [e2]
    exact own_ne h1.ro (own_types h1.ro h1.po (by decide)) hg
  · rw [e1, List.map_append, h.ps]; rfl
  · rw [rowP_push, List.length_append]
    exact ho
  · rcases List.mem_append.1 hq with hq | hq
    · exact ⟨own_ne (h1.qo q hq).1 (own_types (h1.qo q hq).1 h1.po (by decide)) hg, (h1.qo q hq).2⟩
    · rw [List.mem_singleton.1 hq]
      refine ⟨own_weaken (own_ne hn (own_types hn h1.po (by decide)) hg) (by omega), fun g e e' => ?_⟩
      have h2 := (hn.lt g e).1
      have h3 := (h.ro.lt g e').2
      omega
theorem PSt.stay (h : PSt w F x i qs v6 vr wr) {t : Tm} (ht : x.terms[i]? = some t) (he : F t.name = none) {vr' : Value} {w1 w2 : World} (hb : Below wr.heap.size wr w1) (ho : w2.ownsRow (w.heap.size + 1 + 1 + 1) 49 2 vr' ((restF F (x.terms.take i)).length + 1) (rowT (restF F (x.terms.take i)) ++ t.cells)) (hg : w1.grownBy w2 vr.ownBlock) (hw : vr'.ownBlock = vr.ownBlock ∨ vr'.ownBlock = some w1.heap.size) :
    Two w2 (w.heap.size + 1 + 1) 29 vr (.int .u32 x.const) ∧ PSt w F x (i + 1) qs v6 vr' (w2.setCell ⟨w.heap.size + 1 + 1, 0, none⟩ vr') := by
  obtain ⟨e1, e2⟩ := partsF_none ht he
  have h1 := h.below hb
  have hs := h.size
  have hk : ∀ g, vr.ownBlock = some g → w.heap.size + 1 + 1 + 1 ≤ g := fun g e => (h1.ro.lt g e).1
  have hi := (List.getElem?_eq_some_iff.1 ht).1
  have hr := h1.rst.grown hg (fun e => by have := hk _ e; omega)
  obtain ⟨s1, s2⟩ := two_put hr vr'
  refine ⟨hr, hi, (h1.res.grown hg (fun e => by have := hk _ e; omega)).grown s2 (by simp), s1, ?_, by rw [e1]; exact h.ps, own_low (own_ne h1.po (fun g e e' => own_types h1.po h1.ro (by decide) g e e') hg) s2 (by omega), fun q hq => ⟨own_low (own_ne (h1.qo q hq).1 (h1.qo q hq).2 hg) s2 (by omega), fun g e e' => ?_⟩, (h1.bel.grown hg h1.bel.size (fun g e => by have := hk g e; omega)).grown s2 (Nat.le_trans h1.bel.size hg.size) (fun j hj => by cases hj; omega), ?_⟩
  · rw [e2, rowT_push, List.length_append]
    exact own_low ho s2 (by omega)
  · rcases hw with hw | hw
    · rw [hw] at e'
      exact (h1.qo q hq).2 g e e'
    · rw [hw] at e'
      have := ((h1.qo q hq).1.lt g e).2
      cases e'
      omega
  · have := h1.size
    have := hg.size
    have := s2.size
    omega
end
end Go.Proofs.Ytebbbefknfldoaa
