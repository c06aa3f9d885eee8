/- equ.walk's state in memory. -/
import Derived.Test.YtebbbefknfldoaaLinM
import Derived.Handy
import Derived.Shelf.SlGeneric
import Derived.Shelf.SlSortCmp.WholeK
import Derived.Shelf.SlicesQ.Equal
import Derived.Shelf.Slices.Turned
import Derived.Test.YtebbbefknfldoaaProg
import Derived.Shelf.SlSortCmp.NoneTotal
import Derived.Maps.OwnSet
import Derived.Maps.OwnOps
import Derived.WalkKit
import Derived.Lib.SmallJoins
/- What an expression is, as a function on its tokens. -/
namespace Go.Proofs.Ytebbbefknfldoaa
set_option linter.unusedVariables false
structure Lin where
  terms : List Tm
  const : Int
abbrev PRes := Except Int (Lin × List Tok)
structure GoodL (x : Lin) : Prop where
  canon : Canon x.terms
  lo : 0 ≤ x.const
  hi : x.const < 4294967296
structure Fine (W : List Tok → PRes) : Prop where
  len : ∀ ts x r, W ts = .ok (x, r) → x.terms.length + r.length ≤ ts.length
  good : ∀ ts x r, W ts = .ok (x, r) → GoodL x
  err : ∀ ts e, W ts = .error e → e = 20 ∨ e = 21
end Go.Proofs.Ytebbbefknfldoaa
/- Terms in memory. -/
namespace Go.Proofs.Ytebbbefknfldoaa
open Go.ChangeShapes Go.WideShapes Go.ChangeAt Go.RowKit
set_option linter.unusedVariables false
set_option maxRecDepth 100000
def Tm.cells (t : Tm) : List Value := [.string (str t.name), .int .u32 t.coef]
def rowT (ts : List Tm) : List Value := ts.flatMap Tm.cells
theorem rowT_push (acc : List Tm) (t : Tm) : rowT (acc ++ [t]) = rowT acc ++ t.cells := by simp [rowT]
theorem rowT_append (a b : List Tm) : rowT (a ++ b) = rowT a ++ rowT b := by simp [rowT]
theorem rowT_length (ts : List Tm) : (rowT ts).length = ts.length * 2 := by
  induction ts with
  | nil => rfl
  | cons x ts ih =>
    have hx : rowT (x :: ts) = x.cells ++ rowT ts := by simp [rowT]
    have hl : x.cells.length = 2 := rfl
    rw [hx, List.length_append, ih, hl, List.length_cons]
    omega
theorem rowT_get (ts : List Tm) (i f : Nat) (t : Tm) (hi : ts[i]? = some t) (hf : f < 2) : (rowT ts)[i * 2 + f]? = t.cells[f]? := by
  induction ts generalizing i with
  | nil => simp at hi
  | cons x ts ih =>
    have hx : rowT (x :: ts) = x.cells ++ rowT ts := by simp [rowT]
    have hl : x.cells.length = 2 := rfl
    rw [hx]
    cases i with
    | zero =>
      simp at hi
      subst hi
      rw [Nat.zero_mul, Nat.zero_add, List.getElem?_append_left (by omega)]
    | succ i =>
      simp at hi
      rw [List.getElem?_append_right (by omega), hl, show (i + 1) * 2 + f - 2 = i * 2 + f by omega]
      exact ih i hi
theorem below_alloc (w : World) (o : Obj) : Below w.heap.size w (w.alloc o) := (Below.refl _ w).alloc (Nat.le_refl _) o
structure TmAt (w : World) (g o : Nat) (t : Tm) : Prop where
  name : w.cell? ⟨g, o, none⟩ = some (.string (str t.name))
  coef : w.cell? ⟨g, o + 1, none⟩ = some (.int .u32 t.coef)
theorem TmAt.below {w w' : World} {g o : Nat} {t : Tm} {B : Nat} (h : TmAt w g o t) (hb : Below B w w') (hg : g < B) : TmAt w' g o t :=
  ⟨by rw [hb.cell (p := ⟨g, o, none⟩) hg]; exact h.name, by rw [hb.cell (p := ⟨g, o + 1, none⟩) hg]; exact h.coef⟩
def TmLies (w : World) (a : Option Addr) (ts : List Tm) : Prop := ts = [] ∨ ∃ g o, a = some ⟨g, o, none⟩ ∧ g < w.heap.size ∧ ∀ i t, ts[i]? = some t → TmAt w g (o + i * 2) t
theorem TmLies.below {w w' : World} {a : Option Addr} {ts : List Tm} {B : Nat} (h : TmLies w a ts) (hb : Below B w w') (hB : w.heap.size ≤ B) : TmLies w' a ts := by
  rcases h with h | ⟨g, o, ha, hg, h⟩
  · exact .inl h
  · exact .inr ⟨g, o, ha, Nat.lt_of_lt_of_le hg hb.size, fun i t hi => (h i t hi).below hb (by omega)⟩
theorem TmLies.nil (w : World) (a : Option Addr) : TmLies w a [] := .inl rfl
theorem own_slice {w : World} {lo : Nat} {T : TypeId} {sz : Nat} {v : Value} {n : Nat} {xs : List Value} (h : w.ownsRow lo T sz v n xs) : ∃ a c, v = .slice a n c := by
  obtain ⟨hl, ⟨hv, h0⟩ | ⟨g, cap, cur, hv, r⟩⟩ := h
  · exact ⟨none, 0, by rw [hv, h0]⟩
  · exact ⟨_, cap, hv⟩
theorem own_tmLies {w : World} {B : Nat} {a : Option Addr} {c : Nat} {ts : List Tm} (h : w.ownsRow B 49 2 (.slice a ts.length c) ts.length (rowT ts)) : TmLies w a ts := by
  have h' := h
  obtain ⟨hl, ⟨hv, h0⟩ | ⟨g, cap, cur, hv, hbg, hg, r⟩⟩ := h
  · exact .inl (List.eq_nil_of_length_eq_zero h0)
  · injection hv with hv _ hv3
    subst hv
    refine .inr ⟨g, 0, rfl, (Array.getElem?_eq_some_iff.1 hg).1, fun i t hi => ?_⟩
    have hlt := (List.getElem?_eq_some_iff.1 hi).1
    have key : ∀ f, f < 2 → w.cell? ⟨g, i * 2 + f, none⟩ = t.cells[f]? := fun f hf => by rw [h'.cellAt _ (by rw [rowT_length] at hl; omega), rowT_get ts i f t hi hf]
    rw [Nat.zero_add]
    exact ⟨key 0 (by omega), key 1 (by omega)⟩
theorem own_weaken {w : World} {lo B : Nat} {T : TypeId} {sz : Nat} {v : Value} {n : Nat} {xs : List Value} (h : w.ownsRow lo T sz v n xs) (hB : B ≤ lo) : w.ownsRow B T sz v n xs := by
  refine ⟨h.1, ?_⟩
  rcases h.2 with hx | ⟨g, cap, cur, k1, k2, k3⟩
  · exact .inl hx
  · exact .inr ⟨g, cap, cur, k1, by omega, k3⟩
theorem own_type {w : World} {lo : Nat} {T : TypeId} {sz : Nat} {v : Value} {n : Nat} {xs : List Value} (h : w.ownsRow lo T sz v n xs) {g : Nat} (hg : v.ownBlock = some g) : ∃ cur, w.heap[g]? = some (.cells cur T (0, 0)) := by
  rcases h.2 with ⟨rfl, _⟩ | ⟨g', cap, cur, rfl, _, hgg, _⟩
  · simp [Value.ownBlock] at hg
  · simp [Value.ownBlock] at hg
    subst hg
    exact ⟨cur, hgg⟩
theorem own_low {w w' : World} {lo k : Nat} {T : TypeId} {sz : Nat} {v : Value} {n : Nat} {xs : List Value} (h : w.ownsRow lo T sz v n xs) (hg : w.grownBy w' (some k)) (hk : k < lo) : w'.ownsRow lo T sz v n xs :=
  h.kept hg (by
    cases hb : v.ownBlock with
    | none => exact .inl rfl
    | some g =>
      refine .inr fun e => ?_
      have := (h.lt g hb).1
      injection e with e
      omega)
structure Two (w : World) (g : Nat) (T : TypeId) (x y : Value) : Prop where
  heap : w.heap[g]? = some (.cells #[x, y] T (0, 0))
  c0 : w.cell? ⟨g, 0, none⟩ = some x
  c1 : w.cell? ⟨g, 1, none⟩ = some y
  f0 : w.frozen? ⟨g, 0, none⟩ = false
  f1 : w.frozen? ⟨g, 1, none⟩ = false
theorem two_of {w : World} {g : Nat} {T : TypeId} {x y : Value} (h : w.heap[g]? = some (.cells #[x, y] T (0, 0))) : Two w g T x y :=
  ⟨h, by rw [cell_of_row w g 0 _ T (0, 0) h]; rfl, by rw [cell_of_row w g 1 _ T (0, 0) h]; rfl, frozen_of_row w g 0 _ T h, frozen_of_row w g 1 _ T h⟩
theorem Two.alloc {w : World} {g : Nat} {T : TypeId} {x y : Value} (h : Two w g T x y) (o : Obj) : Two (w.alloc o) g T x y :=
  two_of (by rw [Below.heap_alloc w o g (Array.getElem?_eq_some_iff.1 h.heap).1]; exact h.heap)
theorem Two.a0 {w : World} {g : Nat} {T : TypeId} {x y : Value} (h : Two w g T x y) : ∀ o, (w.alloc o).cell? ⟨g, 0, none⟩ = some x := fun o => (h.alloc o).c0
theorem Two.a1 {w : World} {g : Nat} {T : TypeId} {x y : Value} (h : Two w g T x y) : ∀ o, (w.alloc o).cell? ⟨g, 1, none⟩ = some y := fun o => (h.alloc o).c1
theorem Two.b0 {w : World} {g : Nat} {T : TypeId} {x y : Value} (h : Two w g T x y) : ∀ o, (w.alloc o).frozen? ⟨g, 0, none⟩ = false := fun o => (h.alloc o).f0
theorem Two.b1 {w : World} {g : Nat} {T : TypeId} {x y : Value} (h : Two w g T x y) : ∀ o, (w.alloc o).frozen? ⟨g, 1, none⟩ = false := fun o => (h.alloc o).f1
theorem two_new (w : World) (T : TypeId) (x y : Value) : Two (w.alloc (.cells #[x, y] T)) w.heap.size T x y := two_of (heap_alloc_new w _)
theorem Two.grown {w w' : World} {g : Nat} {T : TypeId} {x y : Value} {k : Option Nat} (h : Two w g T x y) (hg : w.grownBy w' k) (hk : k ≠ some g) : Two w' g T x y :=
  two_of (by rw [hg.block g (Array.getElem?_eq_some_iff.1 h.heap).1 (fun e => hk e.symm)]; exact h.heap)
theorem Two.below {w w' : World} {g B : Nat} {T : TypeId} {x y : Value} (h : Two w g T x y) (hb : Below B w w') (hg : g < B) : Two w' g T x y := two_of (by rw [hb.block g hg]; exact h.heap)
theorem two_set {w : World} {g : Nat} {T : TypeId} {cur : Array Value} (h : w.heap[g]? = some (.cells cur T (0, 0))) (hc : cur.size = 2) (x y : Value) :
    Two ((w.setCell ⟨g, 0, none⟩ x).setCell ⟨g, 1, none⟩ y) g T x y ∧ w.grownBy ((w.setCell ⟨g, 0, none⟩ x).setCell ⟨g, 1, none⟩ y) (some g) := by
  have h1 := heap_setCell_same w g 0 cur T x h
  have h2 := heap_setCell_same _ g 1 _ T y h1
  refine ⟨two_of ?_, ?_⟩
  · rw [h2]
    obtain ⟨l⟩ := cur
    match l, hc with
    | [a, b], _ => rfl
  · refine ⟨rfl, rfl, rfl, by simp, fun k hk hne => ?_⟩
    have hk' : k ≠ g := fun e => hne (by rw [e])
    rw [heap_setCell_other _ _ _ _ hk', heap_setCell_other _ _ _ _ hk']
theorem cells_new2 (w : World) (o : Obj) (cs : Array Value) (T : TypeId) : ∀ j u, cs.toList[j]? = some u → ((w.alloc o).alloc (.cells cs T)).cell? ((⟨w.heap.size + 1, 0, none⟩ : Addr).add j) = some u := by
  intro j u h
  have := cells_new (w.alloc o) cs T j u h
  rwa [show (w.alloc o).heap.size = w.heap.size + 1 by simp] at this
theorem two_put {w : World} {g : Nat} {T : TypeId} {x y : Value} (h : Two w g T x y) (z : Value) : Two (w.setCell ⟨g, 0, none⟩ z) g T z y ∧ w.grownBy (w.setCell ⟨g, 0, none⟩ z) (some g) := by
  have h1 := heap_setCell_same w g 0 _ T z h.heap
  refine ⟨two_of h1, ⟨rfl, rfl, rfl, by simp, fun k hk hne => ?_⟩⟩
  have hk' : k ≠ g := fun e => hne (by rw [e])
  rw [heap_setCell_other _ _ _ _ hk']
theorem two_put1 {w : World} {g : Nat} {T : TypeId} {x y : Value} (h : Two w g T x y) (z : Value) : Two (w.setCell ⟨g, 1, none⟩ z) g T x z ∧ w.grownBy (w.setCell ⟨g, 1, none⟩ z) (some g) := by
  have h1 := heap_setCell_same w g 1 _ T z h.heap
  refine ⟨two_of h1, ⟨rfl, rfl, rfl, by simp, fun k hk hne => ?_⟩⟩
  have hk' : k ≠ g := fun e => hne (by rw [e])
  rw [heap_setCell_other _ _ _ _ hk']
theorem grown_trans {a b c : World} {r : Option Nat} (h : a.grownBy b r) (k : b.grownBy c r) : a.grownBy c r :=
  ⟨k.os.trans h.os, k.tape.trans h.tape, k.output.trans h.output, Nat.le_trans h.size k.size, fun i hi hn => by rw [k.block i (Nat.lt_of_lt_of_le hi h.size) hn, h.block i hi hn]⟩
theorem Try.info56 : (Try.prog.info? 49).map (fun i => (i.zero, i.size, i.bytes)) = some (some (.agg #[.string ⟨#[]⟩, .int .u32 0]), 2, 24) := by kernel_rfl
abbrev linV (v : Value) (k : Int) : Value := .agg #[v, .int .u32 k]
end Go.Proofs.Ytebbbefknfldoaa
/- expr.Of, Named, Times. -/
namespace Go.Proofs.Ytebbbefknfldoaa
open Go.ChangeShapes Go.WideShapes Go.ChangeAt Go.RowKit
set_option linter.unusedVariables false
set_option maxRecDepth 100000
structure TSt (w : World) (ts : List Tm) (n k : Int) (i : Nat) (v : Value) (wr : World) : Prop where
  le : i ≤ ts.length
  res : Two wr (w.heap.size + 1) 29 (.slice none 0 0) (.int .u32 0)
  out : Two wr (w.heap.size + 1 + 1) 29 v (.int .u32 (k * n % 4294967296))
  own : wr.ownsRow (w.heap.size + 1 + 1 + 1) 49 2 v (timesT (ts.take i) n).length (rowT (timesT (ts.take i) n))
  bel : Below w.heap.size w wr
  size : w.heap.size + 1 + 1 + 1 ≤ wr.heap.size
theorem take_at {α : Type} (ts : List α) (i : Nat) (t : α) (h : ts[i]? = some t) : ts.take (i + 1) = ts.take i ++ [t] := by
  obtain ⟨hi, he⟩ := List.getElem?_eq_some_iff.1 h
  rw [List.take_add_one, h]
  rfl
theorem times_next {w : World} {ts : List Tm} {n k : Int} {i L c1 : Nat} {a1 : Option Addr} {wr : World} (h : TSt w ts n k i (.slice a1 L c1) wr) (t : Tm) (ht : ts[i]? = some t) :
    (t.coef * n % 4294967296 = 0 → ∀ o, TSt w ts n k (i + 1) (.slice a1 L c1) (wr.alloc o)) ∧
    (t.coef * n % 4294967296 ≠ 0 → ∀ o o2 v2 w3 w4, w3.ownsRow (w.heap.size + 1 + 1 + 1) 49 2 v2 (L + 1) (rowT (timesT (ts.take i) n) ++ [.string (str t.name), .int .u32 (t.coef * n % 4294967296)]) → ((wr.alloc o).alloc o2).grownBy w3 (Value.slice a1 L c1).ownBlock → w4 = w3.setCell ⟨w.heap.size + 1 + 1, 0, none⟩ v2 → TSt w ts n k (i + 1) v2 w4) := by
  have hi := (List.getElem?_eq_some_iff.1 ht).1
  have hsz := h.size
  have htk : timesT (ts.take (i + 1)) n = timesT (ts.take i) n ++ emit t.name (t.coef * n % 4294967296) [] := by
    rw [take_at ts i t ht, timesT_append, timesT_cons, timesT_nil]
  constructor
  · intro hz o
    refine ⟨by omega, h.res.alloc o, h.out.alloc o, ?_, h.bel.alloc (by omega) o, by simp; omega⟩
    rw [htk, emit, if_pos hz, List.append_nil]
    exact h.own.alloc o
  · intro hz o o2 v2 w3 w4 hown hg hw4
    subst hw4
    have hnb : (Value.slice a1 L c1).ownBlock ≠ some (w.heap.size + 1) := fun e => by have := (h.own.lt _ e).1; omega
    have hnb2 : (Value.slice a1 L c1).ownBlock ≠ some (w.heap.size + 1 + 1) := fun e => by have := (h.own.lt _ e).1; omega
    have hr := ((h.res.alloc o).alloc o2).grown hg hnb
    have ho := ((h.out.alloc o).alloc o2).grown hg hnb2
    obtain ⟨s1, s2⟩ := two_put ho v2
    have hs3 := hg.size
    simp at hs3
    refine ⟨by omega, hr.grown s2 (by simp), s1, ?_, ?_, ?_⟩
    · rw [htk, emit, if_neg hz, rowT_push, List.length_append]
      refine own_low ?_ s2 (by omega)
      have hL : (timesT (ts.take i) n).length = L := by
        have h1 := h.own.1
        have h2 := own_slice h.own
        obtain ⟨a', c', h2⟩ := h2
        injection h2 with _ h2 _
        exact h2.symm
      rw [hL]
      exact hown
    · refine Below.grown ?_ s2 (by omega) (fun j hj => by cases hj; omega)
      exact ((h.bel.alloc (by omega) o).alloc (by simp; omega) o2).grown hg (by simp; omega) (fun j hj => by have := (h.own.lt _ hj).1; omega)
    · have := s2.size
      omega
set_option maxHeartbeats 2000000 in
theorem times_any (a : Option Addr) (c : Nat) (ts : List Tm) (k n : Int) (hl : ts.length ≤ 4400000) (w : World) (hT : TmLies w a ts) :
    Calls Try.prog 46 #[linV (.slice a ts.length c) k, .int .u32 n] w fun e w' => Below w.heap.size w w' ∧ ∃ v, e = .returned (linV v (k * n % 4294967296)) ∧ w'.ownsRow w.heap.size 49 2 v (timesT ts n).length (rowT (timesT ts n)) := by
  obtain ⟨n0, hn0⟩ : ∃ n0, n0 = ts.length := ⟨_, rfl⟩
  rw [← hn0] at hl ⊢
  have hTH := Hid.intro hT
  have hnH := Hid.intro hn0
  clear hT hn0
  obtain ⟨i0, hi, hz0, hz1, hz2⟩ := info_parts Try.info56
  go_enter Try.func46, Try.ntmps46
  go_wp2
  go_loopw [16] (fun vi wr => ∃ (i : Nat) (v : Value), vi = .int .i64 (i : Int) ∧ Hid (TSt w ts n k i v wr)) (fun vi _ => n0 - (intOf vi).toNat)
  case atStart =>
    refine ⟨0, .slice none 0 0, rfl, ⟨Nat.zero_le _, ?_, ?_, World.ownsRow_nil _ _ _ _, ?_, by simp⟩⟩
    · have := (two_new (w.alloc (.cells #[.slice a n0 c, .int .u32 k] 29)) 29 (.slice none 0 0) (.int .u32 0)).alloc (.cells #[.slice none 0 0, .int .u32 (k * n % 4294967296)] 29)
      simpa using this
    · have := two_new ((w.alloc (.cells #[.slice a n0 c, .int .u32 k] 29)).alloc (.cells #[.slice none 0 0, .int .u32 0] 29)) 29 (.slice none 0 0) (.int .u32 (k * n % 4294967296))
      simpa using this
    · exact (((below_alloc w _).alloc (by simp) _).alloc (by simp; omega) _)
  case round =>
    obtain ⟨i, v, rfl, hS⟩ := hrel
    have hle := hS.out.le
    rw [← hnH.out] at hle
    obtain ⟨a1, c1, rfl⟩ := own_slice hS.out.own
    obtain ⟨L, hL⟩ : ∃ L, L = (timesT (ts.take i) n).length := ⟨_, rfl⟩
    have hown := hS.out.own
    rw [← hL] at hown hS
    have hLl : L ≤ 4400000 := by
      rw [hL]
      have := times_len (ts.take i) n
      rw [List.length_take] at this
      omega
    have hownH := Hid.intro hown
    have hLH := Hid.intro hL
    clear hown hL
    have hsz := hS.out.size
    by_cases hlt : i < n0
    · obtain ⟨t, ht⟩ : ∃ t, ts[i]? = some t := ⟨ts[i]'(by rw [← hnH.out]; exact hlt), List.getElem?_eq_getElem _⟩
      have htH := Hid.intro ht
      clear ht
      rcases hTH.out with hx | ⟨g, o, rfl, hg, hT⟩
      · rw [hx] at hnH; have := hnH.out; simp at this; omega
      have hgr : g < wr.heap.size := Nat.lt_of_lt_of_le hg hS.out.bel.size
      obtain ⟨q0, q1⟩ := (hT i t htH.out).below hS.out.bel hg
      clear hT
      have hnext := Hid.intro (times_next hS.out t htH.out)
      obtain ⟨oh, o0, o1, of0, of1⟩ := hS.out.out
      have ho := Hid.intro (two_of oh)
      have oa0 := ho.out.a0
      have ob0 := ho.out.b0
      clear oh
      by_cases hz : t.coef * n % 4294967296 = 0
      · have hz' : (t.coef * n % 4294967296 != 0) = false := by simp [hz]
        go_wp2
        all_goals first | omega | skip
        go_roundw
        case rel => exact ⟨i + 1, .slice a1 L c1, by go_num, Hid.intro (hnext.out.1 hz _)⟩
        case measure => simp [intOf]; omega
      · have hz' : (t.coef * n % 4294967296 != 0) = true := by simp [hz]
        go_wp2_with (at_builtin; go_must (refine wpList_append_own_wide _ rfl (.tmp 29) (.tmp 31) 26 rfl (w.heap.size + 1 + 1 + 1) 49 i0 (.agg #[.string ⟨#[]⟩, .int .u32 0]) 2 24 Try.underlying26 hi hz0 hz1 hz2 rfl (by decide) (.slice a1 L c1) L _ rfl ((hownH.out.alloc _).alloc _) ⟨wr.heap.size + 1, 0, none⟩ 1 1 [.string (str t.name), .int .u32 (t.coef * n % 4294967296)] rfl rfl (cells_new2 _ _ _ _) (by simp [Value.oneCell']) (by unfold maxLen; omega) (by omega) (by simp; omega) ?_; intro v2 w3 hown3 hgrow3 _; obtain ⟨a2, c2, rfl⟩ := own_slice hown3; obtain ⟨_, p0, p1, pf0, pf1⟩ := (((ho.out.alloc _).alloc _).grown hgrow3 (fun e => by have := (hownH.out.lt _ e).1; omega))))
        all_goals first | omega | skip
        go_roundw
        case rel => exact ⟨i + 1, .slice a2 (L + 1) c2, by go_num, Hid.intro (hnext.out.2 hz _ _ _ w3 _ hown3 hgrow3 rfl)⟩
        case measure => simp [intOf]; omega
    · obtain ⟨oh, o0, o1, of0, of1⟩ := hS.out.out
      obtain ⟨rh, r0, r1, rf0, rf1⟩ := hS.out.res
      have rhH := Hid.intro rh
      clear rh oh
      go_wp2
      all_goals first | omega | skip
      have hin : i = ts.length := by rw [← hnH.out]; omega
      obtain ⟨s1, s2⟩ := two_set rhH.out rfl (.slice a1 L c1) (.int .u32 (k * n % 4294967296))
      have hb2 : Below w.heap.size w ((wr.setCell ⟨w.heap.size + 1, 0, none⟩ (.slice a1 L c1)).setCell ⟨w.heap.size + 1, 1, none⟩ (.int .u32 (k * n % 4294967296))) := hS.out.bel.grown s2 (by omega) (fun j hj => by cases hj; omega)
      generalize ((wr.setCell ⟨w.heap.size + 1, 0, none⟩ (.slice a1 L c1)).setCell ⟨w.heap.size + 1, 1, none⟩ (.int .u32 (k * n % 4294967296))) = w3 at s1 s2 hb2 ⊢
      obtain ⟨_, z0, z1, _, _⟩ := s1
      refine bodyPost_ret (by simp [results, Try.results46, go_sem, z0, z1]; try rfl) rfl ?_
      refine ⟨hb2, _, rfl, ?_⟩
      have hown := own_weaken (own_low hS.out.own s2 (by omega)) (B := w.heap.size) (by omega)
      rw [hin, List.take_length] at hown
      exact hown
end Go.Proofs.Ytebbbefknfldoaa
/- The library's slices.SortFunc and slices.Equal at terms, slices.Contains at texts: the shelf's layings at this program's numbers. -/
namespace Go.Proofs
open Go.Shelf
def Try.laysSort_ren : Go.Shelf.Ren := ⟨fun | 6 => 77 | 15 => 49 | 14 => 82 | 28 => 66 | 29 => 67 | 20 => 84 | 21 => 85 | 22 => 86 | 23 => 87 | 24 => 88 | 25 => 89 | 26 => 90 | 27 => 91 | 46 => 93 | 47 => 72 | 48 => 73 | 49 => 94 | 50 => 95 | 57 => 96 | n => n, fun | 22 => 26 | 24 => 49 | 25 => 127 | 3 => 3 | 39 => 82 | 0 => 0 | 53 => 27 | 55 => 114 | 4 => 4 | 46 => 106 | 45 => 105 | 50 => 86 | 5 => 5 | 9 => 9 | 66 => 119 | 70 => 123 | 76 => 129 | 77 => 130 | n => n, fun | n => n⟩
theorem Try.laysSort : Go.Proofs.SlLaysF0.n6 Try.prog Try.laysSort_ren := {
  mixed := by kernel_rfl
  f6 := ⟨Try.f77.name, by decide, Try.func77.trans (congrArg some (by kernel_rfl))⟩
  f14 := ⟨Try.f82.name, by decide, Try.func82.trans (congrArg some (by kernel_rfl))⟩
  f15 := Try.func49.trans (congrArg some (by kernel_rfl))
  f20 := ⟨Try.f84.name, by decide, Try.func84.trans (congrArg some (by kernel_rfl))⟩
  f21 := ⟨Try.f85.name, by decide, Try.func85.trans (congrArg some (by kernel_rfl))⟩
  f22 := ⟨Try.f86.name, by decide, Try.func86.trans (congrArg some (by kernel_rfl))⟩
  f23 := ⟨Try.f87.name, by decide, Try.func87.trans (congrArg some (by kernel_rfl))⟩
  f24 := ⟨Try.f88.name, by decide, Try.func88.trans (congrArg some (by kernel_rfl))⟩
  f25 := ⟨Try.f89.name, by decide, Try.func89.trans (congrArg some (by kernel_rfl))⟩
  f26 := ⟨Try.f90.name, by decide, Try.func90.trans (congrArg some (by kernel_rfl))⟩
  f27 := ⟨Try.f91.name, by decide, Try.func91.trans (congrArg some (by kernel_rfl))⟩
  f28 := Try.func66.trans (congrArg some (by kernel_rfl))
  f29 := Try.func67.trans (congrArg some (by kernel_rfl))
  f46 := ⟨Try.f93.name, by decide, Try.func93.trans (congrArg some (by kernel_rfl))⟩
  f47 := Try.func72.trans (congrArg some (by kernel_rfl))
  f48 := Try.func73.trans (congrArg some (by kernel_rfl))
  f49 := ⟨Try.f94.name, by decide, Try.func94.trans (congrArg some (by kernel_rfl))⟩
  f50 := ⟨Try.f95.name, by decide, Try.func95.trans (congrArg some (by kernel_rfl))⟩
  f57 := ⟨Try.f96.name, by decide, Try.func96.trans (congrArg some (by kernel_rfl))⟩
  t0 := Try.underlying0
  a0 := Try.isAgg0
  z0 := Try.sizeOf0
  v0 := Try.zeroValue0
  t3 := Try.underlying3
  a3 := Try.isAgg3
  z3 := Try.sizeOf3
  v3 := Try.zeroValue3
  t4 := Try.underlying4
  a4 := Try.isAgg4
  z4 := Try.sizeOf4
  v4 := Try.zeroValue4
  t5 := Try.underlying5
  a5 := Try.isAgg5
  z5 := Try.sizeOf5
  v5 := Try.zeroValue5
  t9 := Try.underlying9
  a9 := Try.isAgg9
  z9 := Try.sizeOf9
  v9 := Try.zeroValue9
  t22 := Try.underlying26
  a22 := Try.isAgg26
  z22 := Try.sizeOf26
  v22 := Try.zeroValue26
  t25 := Try.underlying127
  a25 := Try.isAgg127
  z25 := Try.sizeOf127
  v25 := Try.zeroValue127
  t39 := Try.underlying82
  a39 := Try.isAgg82
  z39 := Try.sizeOf82
  v39 := Try.zeroValue82
  t45 := Try.underlying105
  a45 := Try.isAgg105
  z45 := Try.sizeOf105
  v45 := Try.zeroValue105
  t46 := Try.underlying106
  a46 := Try.isAgg106
  z46 := Try.sizeOf106
  v46 := Try.zeroValue106
  t50 := Try.underlying86
  a50 := Try.isAgg86
  z50 := Try.sizeOf86
  v50 := Try.zeroValue86
  t53 := Try.underlying27
  a53 := Try.isAgg27
  z53 := Try.sizeOf27
  v53 := Try.zeroValue27
  t55 := Try.underlying114
  a55 := Try.isAgg114
  z55 := Try.sizeOf114
  v55 := Try.zeroValue114
  t66 := Try.underlying119
  a66 := Try.isAgg119
  z66 := Try.sizeOf119
  v66 := Try.zeroValue119
  t70 := Try.underlying123
  a70 := Try.isAgg123
  z70 := Try.sizeOf123
  v70 := Try.zeroValue123
  t76 := Try.underlying129
  a76 := Try.isAgg129
  z76 := Try.sizeOf129
  v76 := Try.zeroValue129
  t77 := Try.underlying130
  a77 := Try.isAgg130
  z77 := Try.sizeOf130
  v77 := Try.zeroValue130 }
end Go.Proofs
/- Terms are sorted by name. -/
namespace Go.Proofs.Ytebbbefknfldoaa
open Go.ChangeShapes Go.WideShapes Go.ChangeAt Go.RowKit Go.Sort
set_option linter.unusedVariables false
set_option maxRecDepth 100000
theorem compareString_any (a b : ByteArray) (w : World) :
    Calls Try.prog 83 #[.string a, .string b] w fun e w' => e = .returned (.int .i64 (Lib.compareBytes a.data.toList b.data.toList)) ∧ w' = w := by
  go_enter Try.func83, Try.ntmps83
  go_wp2
  rw [run_callFunc_extern Try.func92 (by kernel_rfl) (by kernel_rfl) (by kernel_rfl) (e := Extern.BytealgCompare.compare) (by kernel_rfl), Lib.run_compareString]
  simp only [Result.andThen]
  rw [Oper.upon_value]
  go_wp2
  go_ret
  exact ⟨rfl, rfl⟩
theorem compare_any (a b : ByteArray) (w : World) :
    Calls Try.prog 79 #[.string a, .string b] w fun e w' => e = .returned (.int .i64 (Lib.compareBytes a.data.toList b.data.toList)) ∧ w' = w := by
  go_enter Try.func79, Try.ntmps79
  go_wp2_with (go_at_call 83; refine (compareString_any _ _ _).mono ?_; rintro e w' ⟨rfl, rfl⟩)
  go_ret
  exact ⟨rfl, rfl⟩
instance : Inhabited Tm := ⟨⟨[], 0⟩⟩
def cmpT (x y : Tm) : Int := Lib.compareBytes x.name y.name
theorem closure_any (x y : Tm) (W : World) : Calls Try.prog 78 #[.agg x.cells.toArray, .agg y.cells.toArray] W fun e w' => e = .returned (.int .i64 (cmpT x y)) ∧ ∃ q os', w' = grow (W.drewN q) os' := by
  have hcon := fun W' => compare_any (str x.name) (str y.name) W'
  have hx : ∀ l : List UInt8, (str l).data.toList = l := fun l => rfl
  rw [hx, hx] at hcon
  unfold cmpT
  generalize Lib.compareBytes x.name y.name = r at hcon ⊢
  simp only [Tm.cells]
  go_enter Try.func78, Try.ntmps78
  go_wp2_with (go_at_call 79; refine (hcon _).mono ?_; rintro e w' ⟨rfl, rfl⟩)
  go_ret
  exact ⟨rfl, 0, _, by rw [alloc_eq_grow, alloc_eq_grow, grow_grow]; rfl⟩
theorem cmpLays_any (blk off size : Nat) (w : World) : CmpLays Try.prog 78 #[] Tm.cells 2 cmpT blk off size w :=
  fun _ _ _ _ x y => closure_any x y _
theorem ltT (x y : Tm) : ltOf cmpT x y = nlt x.name y.name := compare_nlt _ _
theorem swoT : SWO (ltOf cmpT) where
  irrefl x := by rw [ltT, nlt_irrefl]
  trans x y z h1 h2 := by rw [ltT] at *; exact nlt_trans h1 h2
  ntrans x y z h1 h2 := by
    rw [ltT] at *
    have := leT_trans z y x (by simp [leT, h2]) (by simp [leT, h1])
    simpa [leT] using this
theorem flat_row (ts : List Tm) : (flatK Tm.cells 2 ts.toArray).toList = rowT ts := by
  apply List.ext_getElem?
  intro j
  by_cases hj : j < ts.length * 2
  · have hq : j / 2 < ts.length := by omega
    have h1 : ts[j / 2]? = some ts[j / 2] := List.getElem?_eq_getElem hq
    have h2 := rowT_get ts (j / 2) (j % 2) _ h1 (by omega)
    rw [show j / 2 * 2 + j % 2 = j by omega] at h2
    rw [h2, Array.getElem?_toList]
    have h3 : (flatK Tm.cells 2 ts.toArray)[j]? = some (flatK Tm.cells 2 ts.toArray)[j]! := by
      rw [getElem!_pos _ j (by simp; omega)]
      exact Array.getElem?_eq_getElem _
    rw [h3, get_flatK _ _ _ _ (by simpa using hj)]
    have h4 : ts.toArray[j / 2]! = ts[j / 2] := by
      rw [getElem!_pos _ _ (by simpa using hq)]
      simp
    rw [h4]
    have h5 : (ts[j / 2].cells).length = 2 := rfl
    rw [getElem!_pos _ _ (by omega), List.getElem?_eq_getElem (by omega)]
  · rw [List.getElem?_eq_none (by simp; omega), List.getElem?_eq_none (by rw [rowT_length]; omega)]
theorem holds_own {w : World} {g n : Nat} {cur : Array Value} {e : TypeId} {ts : List Tm} (hb : w.heap[g]? = some (.cells cur e (0, 0))) (ht : cur.toList.take (ts.length * 2) = rowT ts) : HoldsK Tm.cells 2 w g 0 ts.toArray := by
  intro j hj
  have hj' : j < ts.length * 2 := by simpa using hj
  refine ⟨?_, by simp [World.frozen?, hb]⟩
  have h1 : (cur.toList.take (ts.length * 2))[j]? = (rowT ts)[j]? := by rw [ht]
  rw [List.getElem?_take_of_lt hj'] at h1
  simp only [World.cell?, hb, Nat.zero_add]
  simp only [Option.isSome_none, Bool.false_eq_true, if_false]
  rw [← Array.getElem?_toList, h1, ← flat_row, Array.getElem?_toList, getElem!_pos _ j hj]
  exact Array.getElem?_eq_getElem _
theorem heap_sortedK {w : World} {g n : Nat} {os : Array Obj} {cur : Array Value} {e : TypeId} {fr : Nat × Nat} (d : Array Tm) (hb : w.heap[g]? = some (.cells cur e fr)) :
    (sortWorldK Tm.cells 2 w g 0 n d os).heap[g]? = some (.cells (putCells id 0 (flatK Tm.cells 2 d) cur) e fr) := by
  have hg : g < w.heap.size := (Array.getElem?_eq_some_iff.1 hb).1
  unfold sortWorldK putRowK
  rw [heap_grow_old _ _ (by simpa using hg)]
  simp [putRow, mapBlock, Sort.ahead, Array.getElem?_modify, hb, onCells]
theorem grownBy_sortedK {w : World} {g n : Nat} {os : Array Obj} (d : Array Tm) : w.grownBy (sortWorldK Tm.cells 2 w g 0 n d os) (some g) := by
  unfold sortWorldK putRowK
  refine ⟨rfl, rfl, rfl, by simp, fun k hk hne => ?_⟩
  rw [heap_grow_old _ _ (by simpa using hk)]
  have : g ≠ k := fun e => hne (by rw [e])
  simp [putRow, mapBlock, Sort.ahead, Array.getElem?_modify, this]
theorem take_putCellsK (cur F : Array Value) (h : F.size ≤ cur.size) : (putCells id 0 F cur).toList.take F.size = F.toList := by
  apply List.ext_getElem?
  intro j
  by_cases hj : j < F.size
  · rw [List.getElem?_take_of_lt hj, Array.getElem?_toList, Array.getElem?_toList]
    simp [putCells, hj, show j < cur.size by omega]
  · rw [List.getElem?_take_eq_none (by omega), List.getElem?_eq_none (by simp; omega)]
theorem sort_any (v : Value) (ts : List Tm) (B : Nat) (w : World) (hl : ts.length ≤ 9000000) (hown : w.ownsRow B 49 2 v ts.length (rowT ts)) :
    Calls Try.prog 77 #[v, .func (.func 78) #[] #[]] w fun e w' => e = .returned (.tuple #[]) ∧ ∃ ts', ts.Perm ts' ∧ Sorted ts' ∧ w'.ownsRow B 49 2 v ts.length (rowT ts') ∧ w.grownBy w' v.ownBlock := by
  have hown' := hown
  obtain ⟨hlen, ⟨rfl, h0⟩ | ⟨g, cap, cur, rfl, hbg, hg, hle, hcap, hsz, htk⟩⟩ := hown
  · have hts : ts = [] := List.eq_nil_of_length_eq_zero h0
    subst hts
    refine (AnyF.slices_SortFunc_none Try.laysSort none 0 (.func (.func 78) #[] #[]) w).mono ?_
    rintro e w' ⟨rfl, rfl⟩
    exact ⟨rfl, [], List.Perm.refl _, List.Pairwise.nil, hown', World.grownBy.refl _ _⟩
  · have eg : ∀ args w, (callFunc 78 args).run Try.prog w = .ok (.enter 78 args) w := enters_of Try.func78 (by kernel_rfl) rfl
    have hcon := AnyQ.slices_SortFunc Try.laysSort 2 Try.isAgg49 Try.sizeOf49 Tm.cells (fun _ => rfl) (fun x u hu => by simp [Tm.cells] at hu; rcases hu with rfl | rfl <;> rfl) cmpT swoT 78 #[] g 0 cap ts.toArray w eg (cmpLays_any g 0 _ w) (holds_own (n := 0) hg htk) (Array.getElem?_eq_some_iff.1 hg).1 (by simp; omega)
    change Calls Try.prog 77 _ _ _ at hcon
    simp only [List.size_toArray] at hcon
    refine hcon.mono ?_
    rintro e w' ⟨rfl, d', n, os, hp, hs, rfl⟩
    have hds : d'.size = ts.length := by simpa using hp.1
    have hperm : d'.toList.Perm ts := by
      have := hp.2.2
      simp at this
      rwa [List.take_of_length_le (by simp [hds])] at this
    refine ⟨rfl, d'.toList, hperm.symm, ?_, ?_, ?_⟩
    · refine List.pairwise_iff_getElem.2 fun i j hi hj hij => ?_
      have hi' : i < d'.size := by simpa using hi
      have hj' : j < d'.size := by simpa using hj
      have := hs i j (Nat.zero_le _) hij (by omega)
      rw [ltT, getElem!_pos d' i hi', getElem!_pos d' j hj'] at this
      simpa using this
    · refine ⟨by rw [rowT_length]; simp [hds], .inr ⟨g, cap, _, rfl, hbg, heap_sortedK d' hg, hle, hcap, by simp [putCells, hsz], ?_⟩⟩
      have h1 := take_putCellsK cur (flatK Tm.cells 2 d') (by simp [hds, hsz]; omega)
      have h2 := flat_row d'.toList
      simp only [Array.toArray_toList] at h2
      rw [h2] at h1
      simpa [hds] using h1
    · exact grownBy_sortedK d'
end Go.Proofs.Ytebbbefknfldoaa
/- A map of names to numbers in memory: map[string]int. -/
namespace Go.Proofs.Ytebbbefknfldoaa
open Go.ChangeShapes Go.WideShapes Go.ChangeAt Go.RowKit Go.WideMaps Go.Maps
set_option linter.unusedVariables false
set_option maxRecDepth 100000
theorem lawS : Keyed Try.prog 9 := string_keyed Try.underlying9
theorem zero3 (w : World) : (zeroValue 3).run Try.prog w = .ok (.int .i64 0) w := by kernel_rfl
def intE (v : Value) : Option (DataW Unit × List MemPlace) :=
  match v with
  | .int .i64 z => some (.lit (.int .i64 z), [])
  | _ => none
theorem intE_mk (z : Int) : intE (.int .i64 z) = some (.lit (.int .i64 z), []) := rfl
theorem intE_inv {v : Value} {z : Int} {ps : List MemPlace} (h : intE v = some (.lit (.int .i64 z), ps)) : v = .int .i64 z := by
  unfold intE at h
  split at h
  · simp at h
    rw [h.1]
  · cases h
def IntIs (w : World) (b n : Nat) (f : List UInt8 → Option Int) : Prop :=
  ∃ D : DataW Unit, w.ownsMap Try.prog 9 intE b n D ∧ IsMap D ∧ ∀ s, has D (.string s) = (f s).isSome ∧ ∀ z, f s = some z → ∀ zd, D.atKey (.string s) zd = .lit (.int .i64 z)
theorem IntIs.lt {w : World} {b n : Nat} {f : List UInt8 → Option Int} (h : IntIs w b n f) : b < w.heap.size := by
  obtain ⟨D, h1, _⟩ := h
  exact h1.lt
theorem IntIs.kept {w w' : World} {b n : Nat} {row : Option Nat} {f : List UInt8 → Option Int} (h : IntIs w b n f) (hg : w.grownBy w' row) (hne : some b ≠ row) : IntIs w' b n f := by
  obtain ⟨D, h1, h2, h3⟩ := h
  exact ⟨D, h1.kept hg hne, h2, h3⟩
theorem intlook_run {w : World} {b n : Nat} {f : List UInt8 → Option Int} (h : IntIs w b n f) (s : List UInt8) (hs : s.length ≤ 140737488355328) : (Instr.lookup 66 (.map (some b)) (.string (str s)) true).run Try.prog w = .ok (.tuple #[.int .i64 ((f s).getD 0), .bool (f s).isSome]) w := by
  obtain ⟨D, hown, hD1, hD2⟩ := h
  have hsz : (str s).size ≤ maxLen := by
    have h2 : (str s).size = s.length := by simp [str, ByteArray.size]
    unfold maxLen
    omega
  have hkey : keyOf Try.prog 9 (.string (str s)) = some (.string s) := keyOf_string_mk Try.underlying9 hsz
  obtain ⟨v, ps, hrun, hv⟩ := hown.look_ok lawS Try.underlying66 (zero3 w) (intE_mk 0) hkey
  rw [hrun, (hD2 s).1]
  cases hf : f s with
  | some z =>
    rw [(hD2 s).2 z hf] at hv
    rw [intE_inv hv]
    rfl
  | none =>
    have hno : has D (.string s) = false := by rw [(hD2 s).1, hf]; rfl
    rw [atKey_of_not_has hno] at hv
    rw [intE_inv hv]
    rfl
theorem intput_run {w : World} {b n : Nat} {f : List UInt8 → Option Int} (h : IntIs w b n f) (hn : n ≤ 3000000) (s : List UInt8) (z : Int) (hs : s.length ≤ 140737488355328) :
    ∃ w', (Instr.mapUpdate 66 (.map (some b)) (.string (str s)) (.int .i64 z)).run Try.prog w = .ok () w' ∧ IntIs w' b (n + 1) (fun x => if x = s then some z else f x) ∧ w.grownBy w' (some b) := by
  obtain ⟨D, hown, hD1, hD2⟩ := h
  have hsz : (str s).size ≤ maxLen := by
    have h2 : (str s).size = s.length := by simp [str, ByteArray.size]
    unfold maxLen
    omega
  have hkey : keyOf Try.prog 9 (.string (str s)) = some (.string s) := keyOf_string_mk Try.underlying9 hsz
  obtain ⟨w', hrun, r1, r2⟩ := hown.update lawS Try.underlying66 (by unfold maxLen; omega) hkey (intE_mk z)
  refine ⟨w', hrun, ⟨_, r1, hD1.put _ _, fun x => ?_⟩, r2⟩
  by_cases hx : x = s
  · subst hx
    simp only [if_true]
    refine ⟨by rw [has_put_same hD1 (show WideAt.IsKeyLit (.string x) from trivial)]; rfl, fun y hy zd => ?_⟩
    cases hy
    exact atKey_put_same hD1 (show WideAt.IsKeyLit (.string x) from trivial) _ _
  · have n1 : (Lit.string x) ≠ .string s := fun e => hx (by injection e)
    simp only [hx, if_false]
    refine ⟨by rw [has_put_other n1]; exact (hD2 x).1, fun y hy zd => ?_⟩
    rw [atKey_put_other n1]
    exact (hD2 x).2 y hy zd
end Go.Proofs.Ytebbbefknfldoaa

/- Which of some nodes come back to themselves, and an order in which each stands behind those that it leads to: the walk that numbers them, as a function, and that it is right. -/
namespace Go.Proofs.Ytebbbefknfldoaa.Ta
set_option linter.unusedVariables false
set_option linter.unusedSimpArgs false
def big : Nat := 9223372036854775807
structure St where
  met : Nat → Nat
  count : Nat
  opn : List Nat
  order : List Nat
  back : List Nat
def upd (m : Nat → Nat) (i x : Nat) : Nat → Nat := fun j => if j = i then x else m j
def finishF (self : Nat → Bool) (frm : Nat) (s : St) : St :=
  { met := fun j => if j ∈ s.opn.drop frm then big else s.met j, count := s.count, opn := s.opn.take frm, order := s.order ++ s.opn.drop frm, back := s.back ++ (s.opn.drop frm).filter fun j => decide (1 < (s.opn.drop frm).length) || self j }
def beginF (i : Nat) (s : St) : St := { met := upd s.met i (s.count + 1), count := s.count + 1, opn := s.opn ++ [i], order := s.order, back := s.back }
def stepF (v : Nat → St → Nat × St) (a : Nat × St) (t : Nat) : Nat × St := if a.2.met t = 0 then (min a.1 (v t a.2).1, (v t a.2).2) else (min a.1 (a.2.met t), a.2)
def endF (self : Nat → Bool) (own frm : Nat) (r : Nat × St) : Nat × St := if r.1 = own then (own, finishF self frm r.2) else r
def visitF (adj : Nat → List Nat) (self : Nat → Bool) : Nat → Nat → St → Nat × St
  | 0, i, s => (0, s)
  | f + 1, i, s => endF self (s.count + 1) s.opn.length ((adj i).foldl (stepF (visitF adj self f)) (s.count + 1, beginF i s))
inductive Rch (adj : Nat → List Nat) : Nat → Nat → Prop
  | refl (a : Nat) : Rch adj a a
  | head {a b c : Nat} : b ∈ adj a → Rch adj b c → Rch adj a c
theorem Rch.trans {adj : Nat → List Nat} {a b c : Nat} (h : Rch adj a b) (g : Rch adj b c) : Rch adj a c := by
  induction h with
  | refl _ => exact g
  | head h1 _ ih => exact .head h1 (ih g)
theorem Rch.one {adj : Nat → List Nat} {a b : Nat} (h : b ∈ adj a) : Rch adj a b := .head h (.refl _)
def Cyc (adj : Nat → List Nat) (a : Nat) : Prop := ∃ b ∈ adj a, Rch adj b a
theorem Rch.stay {adj : Nat → List Nat} {P : Nat → Prop} (hP : ∀ a, P a → ∀ b ∈ adj a, P b) {a b : Nat} (h : Rch adj a b) : P a → P b := by
  induction h with
  | refl _ => exact id
  | head h1 _ ih => exact fun ha => ih (hP _ ha _ h1)
theorem cyc_of {adj : Nat → List Nat} {a b : Nat} (hne : a ≠ b) (h : Rch adj a b) (g : Rch adj b a) : Cyc adj a := by
  cases h with
  | refl _ => exact absurd rfl hne
  | head h1 h2 => exact ⟨_, h1, h2.trans g⟩
section
variable {adj : Nat → List Nat} {self : Nat → Bool} {n : Nat}
def left (n : Nat) (m : Nat → Nat) : Nat := ((List.range n).filter fun v => m v == 0).length
structure Inv (adj : Nat → List Nat) (n : Nat) (s : St) : Prop where
  num : ∀ v ∈ s.opn, 1 ≤ s.met v ∧ s.met v ≤ s.count
  tri : ∀ v, s.met v = 0 ∨ s.met v = big ∨ v ∈ s.opn
  cnt : s.count + left n s.met ≤ n
  don : ∀ v, s.met v = big → ∀ u ∈ adj v, s.met u = big
  ord : ∀ v, v ∈ s.order ↔ s.met v = big
  bck : ∀ v, v ∈ s.back ↔ s.met v = big ∧ Cyc adj v
  top : ∀ l1 v l2, s.order = l1 ++ v :: l2 → (∀ u ∈ adj v, u ∈ l1) ∨ Cyc adj v
  low : ∀ v, s.met v ≠ 0 → v < n
structure Vis (adj : Nat → List Nat) (n : Nat) (i : Nat) (s : St) (least : Nat) (s' : St) (tail : List Nat) : Prop where
  inv : Inv adj n s'
  opn : s'.opn = s.opn ++ tail
  old : ∀ v, s.met v ≠ 0 → s'.met v = s.met v
  mt : s'.met i ≠ 0
  cnt : s.count < s'.count
  tl : ∀ x ∈ tail, Rch adj x i ∧ Rch adj i x ∧ s.count < s'.met x
  edg : ∀ x ∈ tail, ∀ y ∈ adj x, s'.met y ≠ 0 ∧ (y ∈ s.opn → least ≤ s.met y)
  le : least ≤ s.count + 1
  nil : tail = [] → least = s.count + 1
  hit : tail ≠ [] → ∃ u ∈ s.opn, s.met u = least ∧ Rch adj i u
  lft : left n s'.met < left n s.met
theorem left_le {m m' : Nat → Nat} (h : ∀ v, m v ≠ 0 → m' v ≠ 0) : left n m' ≤ left n m := by
  unfold left
  generalize List.range n = l
  induction l with
  | nil => simp
  | cons a l ih =>
    rw [List.filter_cons, List.filter_cons]
    by_cases h1 : m a = 0
    · by_cases h2 : m' a = 0 <;> simp [h1, h2] <;> omega
    · have h2 := h a h1
      simp [h1, h2]
      exact ih
theorem left_lt {m m' : Nat → Nat} (h : ∀ v, m v ≠ 0 → m' v ≠ 0) {i : Nat} (hi : i < n) (h0 : m i = 0) (h1 : m' i ≠ 0) : left n m' < left n m := by
  unfold left
  have hm : i ∈ List.range n := List.mem_range.2 hi
  generalize List.range n = l at hm
  induction l with
  | nil => cases hm
  | cons a l ih =>
    rw [List.filter_cons, List.filter_cons]
    rcases List.mem_cons.1 hm with rfl | hm
    · have : ((l.filter fun v => m' v == 0)).length ≤ ((l.filter fun v => m v == 0)).length := by
        clear ih hm
        induction l with
        | nil => simp
        | cons a l ih =>
          rw [List.filter_cons, List.filter_cons]
          by_cases h2 : m a = 0
          · by_cases h3 : m' a = 0 <;> simp [h2, h3] <;> omega
          · have h3 := h a h2
            simp [h2, h3]
            exact ih
      simp [h0, h1]
      omega
    · have := ih hm
      by_cases h2 : m a = 0
      · by_cases h3 : m' a = 0 <;> simp [h2, h3] <;> omega
      · have h3 := h a h2
        simp [h2, h3]
        exact this
theorem big_pos : big ≠ 0 := by decide
structure Lp (adj : Nat → List Nat) (n : Nat) (i : Nat) (s : St) (a : Nat × St) (tail : List Nat) (seen : List Nat) : Prop where
  inv : Inv adj n a.2
  opn : a.2.opn = s.opn ++ i :: tail
  old : ∀ v, s.met v ≠ 0 → a.2.met v = s.met v
  own : a.2.met i = s.count + 1
  cnt : s.count < a.2.count
  tl : ∀ x ∈ tail, Rch adj x i ∧ Rch adj i x ∧ s.count + 1 < a.2.met x
  edg : ∀ x ∈ tail, ∀ y ∈ adj x, a.2.met y ≠ 0 ∧ (y ∈ s.opn → a.1 ≤ s.met y)
  sn : ∀ y ∈ seen, a.2.met y ≠ 0 ∧ (y ∈ s.opn → a.1 ≤ s.met y)
  le : a.1 ≤ s.count + 1
  hit : a.1 = s.count + 1 ∨ ∃ u ∈ s.opn, s.met u = a.1 ∧ Rch adj i u
  lft : left n a.2.met < left n s.met
theorem Lp.step {f i : Nat} {s : St} {a : Nat × St} {tail seen : List Nat} {t : Nat} (hn : n < big) (hadj : ∀ v, ∀ u ∈ adj v, u < n) (hS : Inv adj n s) (hi : ∀ v ∈ s.opn, Rch adj v i)
    (h : Lp adj n i s a tail seen) (ht : t ∈ adj i)
    (hv : ∀ t s, Inv adj n s → s.met t = 0 → t < n → (∀ v ∈ s.opn, Rch adj v t) → left n s.met ≤ f → ∃ tl, Vis adj n t s (visitF adj self f t s).1 (visitF adj self f t s).2 tl) (hf : left n s.met ≤ f + 1) :
    ∃ tail', Lp adj n i s (stepF (visitF adj self f) a t) tail' (seen ++ [t]) := by
  have hcb : a.2.count < big := by have := h.inv.cnt; omega
  unfold stepF
  by_cases h0 : a.2.met t = 0
  · rw [if_pos h0]
    have hall : ∀ v ∈ a.2.opn, Rch adj v t := fun v hvv => by
      rw [h.opn] at hvv
      rcases List.mem_append.1 hvv with h1 | h1
      · exact (hi v h1).trans (.one ht)
      · rcases List.mem_cons.1 h1 with rfl | h1
        · exact .one ht
        · exact (h.tl v h1).1.trans (.one ht)
    obtain ⟨tl, V⟩ := hv t a.2 h.inv h0 (hadj i t ht) hall (by have := h.lft; omega)
    generalize (visitF adj self f t a.2).1 = lv at *
    generalize (visitF adj self f t a.2).2 = s2 at *
    have hold : ∀ v, s.met v ≠ 0 → s2.met v = s.met v := fun v hv0 => by rw [V.old v (by rw [h.old v hv0]; exact hv0), h.old v hv0]
    have hin : ∀ y ∈ s.opn, y ∈ a.2.opn := fun y hy => by rw [h.opn]; exact List.mem_append_left _ hy
    have hsm : ∀ y ∈ s.opn, a.2.met y = s.met y := fun y hy => h.old y (by have := (hS.num y hy).1; omega)
    have hback : ∀ u ∈ a.2.opn, Rch adj u i := fun u hu => by
      rw [h.opn] at hu
      rcases List.mem_append.1 hu with h1 | h1
      · exact hi u h1
      · rcases List.mem_cons.1 h1 with rfl | h1
        · exact .refl _
        · exact (h.tl u h1).1
    refine ⟨tail ++ tl, V.inv, ?_, hold, ?_, ?_, ?_, ?_, ?_, ?_, ?_, ?_⟩
    · rw [V.opn, h.opn]; simp
    · rw [V.old i (by rw [h.own]; omega)]; exact h.own
    · show s.count < s2.count; have := h.cnt; have := V.cnt; omega
    · intro x hx
      show Rch adj x i ∧ Rch adj i x ∧ s.count + 1 < s2.met x
      rcases List.mem_append.1 hx with h1 | h1
      · obtain ⟨p1, p2, p3⟩ := h.tl x h1
        exact ⟨p1, p2, by rw [V.old x (by omega)]; exact p3⟩
      · obtain ⟨p1, p2, p3⟩ := V.tl x h1
        obtain ⟨u, hu, _, hr⟩ := V.hit (fun e => by rw [e] at h1; cases h1)
        refine ⟨p1.trans (hr.trans (hback u hu)), (Rch.one ht).trans p2, ?_⟩
        have := (h.inv.num i (by rw [h.opn]; simp)).2
        rw [h.own] at this
        omega
    · intro x hx y hy
      rcases List.mem_append.1 hx with h1 | h1
      · obtain ⟨p1, p2⟩ := h.edg x h1 y hy
        exact ⟨by rw [V.old y p1]; exact p1, fun hyo => Nat.le_trans (Nat.min_le_left _ _) (p2 hyo)⟩
      · obtain ⟨p1, p2⟩ := V.edg x h1 y hy
        exact ⟨p1, fun hyo => Nat.le_trans (Nat.min_le_right _ _) (by have := p2 (hin y hyo); rw [hsm y hyo] at this; exact this)⟩
    · intro y hy
      rcases List.mem_append.1 hy with h1 | h1
      · obtain ⟨p1, p2⟩ := h.sn y h1
        exact ⟨by rw [V.old y p1]; exact p1, fun hyo => Nat.le_trans (Nat.min_le_left _ _) (p2 hyo)⟩
      · rw [List.mem_singleton] at h1
        subst h1
        exact ⟨V.mt, fun hyo => absurd (hsm y hyo ▸ h0) (by have := (hS.num y hyo).1; omega)⟩
    · exact Nat.le_trans (Nat.min_le_left _ _) h.le
    · show min a.1 lv = s.count + 1 ∨ _
      by_cases hlt : lv < a.1
      · rw [Nat.min_eq_right (Nat.le_of_lt hlt)]
        have htl : tl ≠ [] := fun e => by have := V.nil e; have := h.le; have := h.cnt; omega
        obtain ⟨u, hu, hm, hr⟩ := V.hit htl
        right
        rw [h.opn] at hu
        rcases List.mem_append.1 hu with h1 | h1
        · exact ⟨u, h1, by rw [← hsm u h1]; exact hm, (Rch.one ht).trans hr⟩
        · exfalso
          have := h.le
          rcases List.mem_cons.1 h1 with rfl | h1
          · rw [h.own] at hm; omega
          · have := (h.tl u h1).2.2; omega
      · rw [Nat.min_eq_left (by omega)]
        exact h.hit
    · show left n s2.met < _; have := V.lft; have := h.lft; omega
  · rw [if_neg h0]
    have hm : ∀ y ∈ s.opn, a.2.met y = s.met y := fun y hy => h.old y (by have := (hS.num y hy).1; omega)
    refine ⟨tail, h.inv, h.opn, h.old, h.own, h.cnt, h.tl, ?_, ?_, ?_, ?_, h.lft⟩
    · intro x hx y hy
      obtain ⟨p1, p2⟩ := h.edg x hx y hy
      exact ⟨p1, fun hyo => Nat.le_trans (Nat.min_le_left _ _) (p2 hyo)⟩
    · intro y hy
      rcases List.mem_append.1 hy with h1 | h1
      · obtain ⟨p1, p2⟩ := h.sn y h1
        exact ⟨p1, fun hyo => Nat.le_trans (Nat.min_le_left _ _) (p2 hyo)⟩
      · rw [List.mem_singleton] at h1
        subst h1
        exact ⟨h0, fun hyo => Nat.le_trans (Nat.min_le_right _ _) (by rw [hm y hyo]; exact Nat.le_refl _)⟩
    · exact Nat.le_trans (Nat.min_le_left _ _) h.le
    · show min a.1 (a.2.met t) = s.count + 1 ∨ _
      by_cases hlt : a.2.met t < a.1
      · rw [Nat.min_eq_right (Nat.le_of_lt hlt)]
        right
        have hl := h.le
        rcases h.inv.tri t with h1 | h1 | h1
        · exact absurd h1 h0
        · have := h.inv.cnt; have := h.cnt; omega
        · rw [h.opn] at h1
          rcases List.mem_append.1 h1 with h1 | h1
          · exact ⟨t, h1, (hm t h1).symm, .one ht⟩
          · exfalso
            rcases List.mem_cons.1 h1 with rfl | h1
            · rw [h.own] at hlt; omega
            · have := (h.tl t h1).2.2; omega
      · rw [Nat.min_eq_left (by omega)]
        exact h.hit
theorem Lp.all {f i : Nat} {s : St} (hn : n < big) (hadj : ∀ v, ∀ u ∈ adj v, u < n) (hS : Inv adj n s) (hi : ∀ v ∈ s.opn, Rch adj v i)
    (hv : ∀ t s, Inv adj n s → s.met t = 0 → t < n → (∀ v ∈ s.opn, Rch adj v t) → left n s.met ≤ f → ∃ tl, Vis adj n t s (visitF adj self f t s).1 (visitF adj self f t s).2 tl) (hf : left n s.met ≤ f + 1) :
    ∀ (l : List Nat) (a : Nat × St) (tail seen : List Nat), (∀ t ∈ l, t ∈ adj i) → Lp adj n i s a tail seen → ∃ tail', Lp adj n i s (l.foldl (stepF (visitF adj self f)) a) tail' (seen ++ l)
  | [], a, tail, seen, _, h => ⟨tail, by simpa using h⟩
  | t :: l, a, tail, seen, hl, h => by
    obtain ⟨t2, h2⟩ := h.step hn hadj hS hi (hl t (by simp)) hv hf
    obtain ⟨t3, h3⟩ := Lp.all hn hadj hS hi hv hf l _ t2 _ (fun x hx => hl x (by simp [hx])) h2
    exact ⟨t3, by simpa using h3⟩
theorem Lp.start {i : Nat} {s : St} (hn : n < big) (hS : Inv adj n s) (h0 : s.met i = 0) (hin : i < n) : Lp adj n i s (s.count + 1, beginF i s) [] [] := by
  have hu : ∀ v, s.met v ≠ 0 → (beginF i s).met v = s.met v := fun v hv => by
    show upd s.met i (s.count + 1) v = _
    unfold upd
    rw [if_neg (fun e => hv (by rw [e]; exact h0))]
  have hown : (beginF i s).met i = s.count + 1 := by show upd s.met i (s.count + 1) i = _; unfold upd; rw [if_pos rfl]
  have hlt : left n (beginF i s).met < left n s.met := left_lt (fun v hv => by rw [hu v hv]; exact hv) hin h0 (by rw [hown]; omega)
  have hcb : s.count + 1 < big := by have := hS.cnt; omega
  have hbig : ∀ v, (beginF i s).met v = big ↔ s.met v = big := fun v => by
    by_cases hv : v = i
    · subst hv; rw [hown, h0]; exact ⟨fun e => by omega, fun e => absurd e.symm big_pos⟩
    · show upd s.met i (s.count + 1) v = _ ↔ _
      unfold upd
      rw [if_neg hv]
  refine ⟨⟨?_, ?_, ?_, ?_, ?_, ?_, hS.top, ?_⟩, rfl, hu, hown, Nat.lt_succ_self _, fun x hx => (by cases hx), fun x hx => (by cases hx), fun x hx => (by cases hx), Nat.le_refl _, .inl rfl, hlt⟩
  · intro v hv
    rcases List.mem_append.1 hv with h1 | h1
    · have := hS.num v h1
      rw [hu v (by omega)]
      exact ⟨this.1, Nat.le_succ_of_le this.2⟩
    · rw [List.mem_singleton] at h1
      subst h1
      rw [hown]
      exact ⟨by omega, Nat.le_refl _⟩
  · intro v
    by_cases hv : v = i
    · subst hv; right; right; show v ∈ s.opn ++ [v]; simp
    · have e : (beginF i s).met v = s.met v := by show upd s.met i (s.count + 1) v = _; unfold upd; rw [if_neg hv]
      rw [e]
      rcases hS.tri v with h | h | h
      · exact .inl h
      · exact .inr (.inl h)
      · exact .inr (.inr (List.mem_append_left _ h))
  · have := hS.cnt
    show s.count + 1 + left n (beginF i s).met ≤ n
    omega
  · intro v hv u hu2
    exact (hbig u).2 (hS.don v ((hbig v).1 hv) u hu2)
  · intro v
    rw [hbig]
    exact hS.ord v
  · intro v
    rw [hbig]
    exact hS.bck v
  · intro v hv
    by_cases e : v = i
    · rw [e]; exact hin
    · refine hS.low v ?_
      have e2 : (beginF i s).met v = s.met v := by show upd s.met i (s.count + 1) v = _; unfold upd; rw [if_neg e]
      rw [← e2]
      exact hv
theorem Lp.fin {i : Nat} {s : St} {a : Nat × St} {tail : List Nat} (hn : n < big) (hself : ∀ v, self v = true ↔ v ∈ adj v) (hS : Inv adj n s) (h : Lp adj n i s a tail (adj i)) (hl : a.1 = s.count + 1) : Vis adj n i s (s.count + 1) (finishF self s.opn.length a.2) [] := by
  have hr : a.2.opn.drop s.opn.length = i :: tail := by rw [h.opn]; simp
  have ht : a.2.opn.take s.opn.length = s.opn := by rw [h.opn]; simp
  have hcb : a.2.count < big := by have := h.inv.cnt; omega
  -- the ring and what is done lead nowhere else
  have hold : ∀ y ∈ s.opn, s.met y ≤ s.count := fun y hy => (hS.num y hy).2
  have hedge : ∀ x ∈ i :: tail, ∀ y ∈ adj x, a.2.met y = big ∨ y ∈ i :: tail := fun x hx y hy => by
    have hh : a.2.met y ≠ 0 ∧ (y ∈ s.opn → a.1 ≤ s.met y) := by
      rcases List.mem_cons.1 hx with rfl | hx
      · exact h.sn y hy
      · exact h.edg x hx y hy
    rcases h.inv.tri y with h1 | h1 | h1
    · exact absurd h1 hh.1
    · exact .inl h1
    · rw [h.opn] at h1
      rcases List.mem_append.1 h1 with h2 | h2
      · have := hh.2 h2; have := hold y h2; omega
      · exact .inr h2
  have hnb : ∀ x ∈ i :: tail, a.2.met x ≠ big := fun x hx => by
    have := (h.inv.num x (by rw [h.opn]; exact List.mem_append_right _ hx)).2
    omega
  have hmet : ∀ j, (finishF self s.opn.length a.2).met j = if j ∈ i :: tail then big else a.2.met j := fun j => by
    show (if j ∈ a.2.opn.drop s.opn.length then big else a.2.met j) = _
    rw [hr]
  have hbig : ∀ v, (finishF self s.opn.length a.2).met v = big ↔ v ∈ i :: tail ∨ a.2.met v = big := fun v => by
    rw [hmet]
    by_cases hv : v ∈ i :: tail
    · simp [hv]
    · rw [if_neg hv]
      exact ⟨.inr, fun h => h.resolve_left hv⟩
  have hdon : ∀ v, (finishF self s.opn.length a.2).met v = big → ∀ u ∈ adj v, (finishF self s.opn.length a.2).met u = big := fun v hv u hu => by
    rcases (hbig v).1 hv with h1 | h1
    · rcases hedge v h1 u hu with h2 | h2
      · exact (hbig u).2 (.inr h2)
      · exact (hbig u).2 (.inl h2)
    · exact (hbig u).2 (.inr (h.inv.don v h1 u hu))
  have hstay : ∀ x y, a.2.met x = big → Rch adj x y → a.2.met y = big := fun x y hx hxy => hxy.stay (P := fun z => a.2.met z = big) h.inv.don hx
  have hcyc : ∀ v ∈ i :: tail, (decide (1 < (i :: tail).length) || self v) = true ↔ Cyc adj v := fun v hv => by
    have hri : Rch adj v i ∧ Rch adj i v := by
      rcases List.mem_cons.1 hv with rfl | hv
      · exact ⟨.refl _, .refl _⟩
      · exact ⟨(h.tl v hv).1, (h.tl v hv).2.1⟩
    constructor
    · intro hb
      rcases Bool.or_eq_true_iff.1 hb with h1 | h1
      · have h2 : 1 < (i :: tail).length := of_decide_eq_true h1
        by_cases hvi : v = i
        · subst hvi
          obtain ⟨x, hx⟩ : ∃ x, x ∈ tail := by
            cases tail with
            | nil => simp at h2
            | cons x l => exact ⟨x, by simp⟩
          obtain ⟨p1, p2, p3⟩ := h.tl x hx
          exact cyc_of (fun e => by rw [← e, h.own] at p3; omega) p2 p1
        · exact cyc_of hvi hri.1 hri.2
      · exact ⟨v, (hself v).1 h1, .refl _⟩
    · rintro ⟨u, hu, hr2⟩
      rw [Bool.or_eq_true_iff]
      by_cases h2 : 1 < (i :: tail).length
      · exact .inl (decide_eq_true h2)
      · right
        have ht0 : tail = [] := by
          cases tail with
          | nil => rfl
          | cons x l => simp at h2
        subst ht0
        have hvi : v = i := by simpa using hv
        subst hvi
        rcases hedge v (by simp) u hu with h3 | h3
        · exact absurd (hstay u v h3 hr2) (hnb v (by simp))
        · have : u = v := by simpa using h3
          rw [this] at hu
          exact (hself v).2 hu
  have hord : (finishF self s.opn.length a.2).order = a.2.order ++ (i :: tail) := by show a.2.order ++ a.2.opn.drop s.opn.length = _; rw [hr]
  have hback : (finishF self s.opn.length a.2).back = a.2.back ++ (i :: tail).filter fun j => decide (1 < (i :: tail).length) || self j := by
    show a.2.back ++ (a.2.opn.drop s.opn.length).filter _ = _
    rw [hr]
  have hopn : (finishF self s.opn.length a.2).opn = s.opn := ht
  have hoff : ∀ v ∈ s.opn, v ∉ i :: tail := fun v hv hvt => by
    have h1 := hold v hv
    have h2 := h.old v (by have := (hS.num v hv).1; omega)
    rcases List.mem_cons.1 hvt with rfl | hvt
    · rw [h.own] at h2; omega
    · have := (h.tl v hvt).2.2; omega
  have hkeep : ∀ v, s.met v ≠ 0 → (finishF self s.opn.length a.2).met v = s.met v := fun v hv => by
    rw [hmet, if_neg (fun hvt => ?_)]
    · exact h.old v hv
    · have h2 := h.old v hv
      have hb : s.met v ≤ s.count ∨ s.met v = big := by
        rcases hS.tri v with h1 | h1 | h1
        · exact absurd h1 hv
        · exact .inr h1
        · exact .inl (hold v h1)
      rcases List.mem_cons.1 hvt with rfl | hvt2
      · rw [h.own] at h2; have := h.inv.cnt; have := h.cnt; omega
      · have := (h.tl v hvt2).2.2
        have := hnb v hvt
        omega
  have hnz : ∀ v, a.2.met v ≠ 0 → (finishF self s.opn.length a.2).met v ≠ 0 := fun v hv => by
    rw [hmet]
    split
    · exact big_pos
    · exact hv
  refine ⟨⟨?_, ?_, ?_, hdon, ?_, ?_, ?_, ?_⟩, by rw [hopn]; simp, hkeep, ?_, h.cnt, fun x hx => (by cases hx), fun x hx => (by cases hx), Nat.le_refl _, fun _ => rfl, fun e => absurd rfl e, Nat.lt_of_le_of_lt (left_le hnz) h.lft⟩
  · rw [hopn]
    intro v hv
    have := hS.num v hv
    rw [hkeep v (by omega)]
    exact ⟨this.1, Nat.le_of_lt (Nat.lt_of_le_of_lt this.2 h.cnt)⟩
  · intro v
    rw [hopn]
    by_cases hv : v ∈ i :: tail
    · exact .inr (.inl ((hbig v).2 (.inl hv)))
    · rcases h.inv.tri v with h1 | h1 | h1
      · left; rw [hmet, if_neg hv]; exact h1
      · exact .inr (.inl ((hbig v).2 (.inr h1)))
      · rw [h.opn] at h1
        rcases List.mem_append.1 h1 with h1 | h1
        · exact .inr (.inr h1)
        · exact absurd h1 hv
  · have h1 := h.inv.cnt
    have h2 := left_le (n := n) hnz
    show a.2.count + _ ≤ n
    omega
  · intro v
    rw [hord, List.mem_append, hbig, h.inv.ord]
    exact ⟨Or.symm, Or.symm⟩
  · intro v
    rw [hback, List.mem_append, hbig, h.inv.bck, List.mem_filter]
    constructor
    · rintro (⟨h1, h2⟩ | ⟨h1, h2⟩)
      · exact ⟨.inr h1, h2⟩
      · exact ⟨.inl h1, (hcyc v h1).1 h2⟩
    · rintro ⟨h1 | h1, h2⟩
      · exact .inr ⟨h1, (hcyc v h1).2 h2⟩
      · exact .inl ⟨h1, h2⟩
  · intro l1 v l2 he
    rw [hord] at he
    rcases List.append_eq_append_iff.1 he with ⟨m, h1, h2⟩ | ⟨m, h1, h2⟩
    · -- the node is one of the ring
      have hvr : v ∈ i :: tail := by rw [h2]; simp
      by_cases hc : Cyc adj v
      · exact .inr hc
      · left
        intro u hu
        rcases hedge v hvr u hu with h3 | h3
        · rw [h1]
          exact List.mem_append_left _ ((h.inv.ord u).2 h3)
        · exfalso
          apply hc
          have hb : (decide (1 < (i :: tail).length) || self v) = true := by
            by_cases huv : u = v
            · rw [huv] at hu
              rw [(hself v).2 hu]
              simp
            · have : 1 < (i :: tail).length := by
                cases tail with
                | nil =>
                  have e1 : u = i := by simpa using h3
                  have e2 : v = i := by simpa using hvr
                  exact absurd (e1.trans e2.symm) huv
                | cons x l => simp
              rw [decide_eq_true this]
              rfl
          exact (hcyc v hvr).1 hb
    · cases m with
      | nil =>
        rw [List.nil_append] at h2
        rw [List.append_nil] at h1
        have hvr : v ∈ i :: tail := by rw [← h2]; simp
        by_cases hc : Cyc adj v
        · exact .inr hc
        · left
          intro u hu
          rcases hedge v hvr u hu with h3 | h3
          · rw [← h1]
            exact (h.inv.ord u).2 h3
          · exfalso
            apply hc
            have hb : (decide (1 < (i :: tail).length) || self v) = true := by
              by_cases huv : u = v
              · rw [huv] at hu
                rw [(hself v).2 hu]
                simp
              · have : 1 < (i :: tail).length := by
                  cases tail with
                  | nil =>
                    have e1 : u = i := by simpa using h3
                    have e2 : v = i := by simpa using hvr
                    exact absurd (e1.trans e2.symm) huv
                  | cons x l => simp
                rw [decide_eq_true this]
                rfl
            exact (hcyc v hvr).1 hb
      | cons y m =>
        rw [List.cons_append] at h2
        injection h2 with e1 e2
        subst e1
        exact h.inv.top l1 v m h1
  · intro v hv
    by_cases hvt : v ∈ i :: tail
    · exact h.inv.low v (by have := (h.inv.num v (by rw [h.opn]; exact List.mem_append_right _ hvt)).1; omega)
    · rw [hmet, if_neg hvt] at hv
      exact h.inv.low v hv
  · rw [hmet, if_pos (by simp)]
    exact big_pos
theorem visit_is (hn : n < big) (hadj : ∀ v, ∀ u ∈ adj v, u < n) (hself : ∀ v, self v = true ↔ v ∈ adj v) : ∀ (f i : Nat) (s : St), Inv adj n s → s.met i = 0 → i < n → (∀ v ∈ s.opn, Rch adj v i) → left n s.met ≤ f → ∃ tail, Vis adj n i s (visitF adj self f i s).1 (visitF adj self f i s).2 tail
  | 0, i, s, hS, h0, hin, hi, hf => by
    have := left_lt (n := n) (m := s.met) (m' := upd s.met i 1) (fun v hv => by unfold upd; split <;> omega) hin h0 (by unfold upd; rw [if_pos rfl]; decide)
    omega
  | f + 1, i, s, hS, h0, hin, hi, hf => by
    obtain ⟨tail, h⟩ := Lp.all (f := f) (self := self) hn hadj hS hi (visit_is hn hadj hself f) hf (adj i) _ [] [] (fun t ht => ht) (Lp.start hn hS h0 hin)
    rw [List.nil_append] at h
    show ∃ tail, Vis adj n i s (endF self (s.count + 1) s.opn.length _).1 (endF self (s.count + 1) s.opn.length _).2 tail
    generalize (adj i).foldl (stepF (visitF adj self f)) (s.count + 1, beginF i s) = a at h
    unfold endF
    by_cases hl : a.1 = s.count + 1
    · rw [if_pos hl]
      exact ⟨[], h.fin hn hself hS hl⟩
    · rw [if_neg hl]
      refine ⟨i :: tail, h.inv, h.opn, h.old, by rw [h.own]; omega, h.cnt, ?_, ?_, h.le, (fun e => by cases e), fun _ => ?_, h.lft⟩
      · intro x hx
        rcases List.mem_cons.1 hx with rfl | hx
        · exact ⟨.refl _, .refl _, by rw [h.own]; omega⟩
        · obtain ⟨p1, p2, p3⟩ := h.tl x hx
          exact ⟨p1, p2, by omega⟩
      · intro x hx y hy
        rcases List.mem_cons.1 hx with rfl | hx
        · exact h.sn y hy
        · exact h.edg x hx y hy
      · rcases h.hit with h1 | h1
        · exact absurd h1 hl
        · exact h1
def allF (adj : Nat → List Nat) (self : Nat → Bool) (n : Nat) : List Nat → St → St
  | [], s => s
  | i :: l, s => allF adj self n l (if s.met i = 0 then (visitF adj self n i s).2 else s)
def zeroS : St := ⟨fun _ => 0, 0, [], [], []⟩
def walkF (adj : Nat → List Nat) (self : Nat → Bool) (n : Nat) : St := allF adj self n (List.range n) zeroS
theorem inv_zero : Inv adj n zeroS := by
  refine ⟨fun v hv => (by cases hv), fun v => .inl rfl, ?_, fun v hv => absurd hv.symm big_pos, fun v => ⟨fun h => (by cases h), fun h => absurd h.symm big_pos⟩, fun v => ⟨fun h => (by cases h), fun h => absurd h.1.symm big_pos⟩, fun l1 v l2 h => ?_, fun v h => absurd rfl h⟩
  · show 0 + left n _ ≤ n
    unfold left
    have := List.length_filter_le (fun v => (zeroS.met v == 0)) (List.range n)
    rw [List.length_range] at this
    omega
  · exact absurd h (by show [] ≠ _; simp)
theorem all_is (hn : n < big) (hadj : ∀ v, ∀ u ∈ adj v, u < n) (hself : ∀ v, self v = true ↔ v ∈ adj v) : ∀ (l : List Nat) (s : St), (∀ i ∈ l, i < n) → Inv adj n s → s.opn = [] → Inv adj n (allF adj self n l s) ∧ (allF adj self n l s).opn = [] ∧ (∀ v, s.met v ≠ 0 → (allF adj self n l s).met v = s.met v) ∧ ∀ i ∈ l, (allF adj self n l s).met i ≠ 0
  | [], s, _, hS, ho => ⟨hS, ho, fun _ _ => rfl, fun i hi => by cases hi⟩
  | i :: l, s, hl, hS, ho => by
    rw [allF]
    by_cases h0 : s.met i = 0
    · rw [if_pos h0]
      obtain ⟨tail, V⟩ := visit_is hn hadj hself n i s hS h0 (hl i (by simp)) (fun v hv => by rw [ho] at hv; cases hv) (by have := hS.cnt; omega)
      have ht : tail = [] := by
        cases tail with
        | nil => rfl
        | cons x l2 =>
          obtain ⟨u, hu, _⟩ := V.hit (by simp)
          rw [ho] at hu
          cases hu
      obtain ⟨r1, r2, r3, r4⟩ := all_is hn hadj hself l _ (fun j hj => hl j (by simp [hj])) V.inv (by rw [V.opn, ho, ht]; rfl)
      refine ⟨r1, r2, fun v hv => ?_, fun j hj => ?_⟩
      · rw [r3 v (by rw [V.old v hv]; exact hv), V.old v hv]
      · rcases List.mem_cons.1 hj with rfl | hj
        · rw [r3 j V.mt]; exact V.mt
        · exact r4 j hj
    · rw [if_neg h0]
      obtain ⟨r1, r2, r3, r4⟩ := all_is hn hadj hself l s (fun j hj => hl j (by simp [hj])) hS ho
      refine ⟨r1, r2, r3, fun j hj => ?_⟩
      rcases List.mem_cons.1 hj with rfl | hj
      · rw [r3 j h0]; exact h0
      · exact r4 j hj
theorem walk_is (hn : n < big) (hadj : ∀ v, ∀ u ∈ adj v, u < n) (hself : ∀ v, self v = true ↔ v ∈ adj v) : (∀ v, v ∈ (walkF adj self n).order ↔ v < n) ∧ (∀ v, v ∈ (walkF adj self n).back ↔ v < n ∧ Cyc adj v) ∧ ∀ l1 v l2, (walkF adj self n).order = l1 ++ v :: l2 → (∀ u ∈ adj v, u ∈ l1) ∨ Cyc adj v := by
  obtain ⟨h1, h2, h3, h4⟩ := all_is (self := self) hn hadj hself (List.range n) zeroS (fun i hi => List.mem_range.1 hi) inv_zero rfl
  have hb : ∀ v, (walkF adj self n).met v = big ↔ v < n := fun v => by
    constructor
    · intro h
      exact h1.low v (by show (walkF adj self n).met v ≠ 0; rw [h]; exact big_pos)
    · intro h
      rcases h1.tri v with h5 | h5 | h5
      · exact absurd h5 (h4 v (List.mem_range.2 h))
      · exact h5
      · rw [h2] at h5; cases h5
  exact ⟨fun v => (h1.ord v).trans (hb v), fun v => (h1.bck v).trans (and_congr_left fun _ => hb v), h1.top⟩
end
end Go.Proofs.Ytebbbefknfldoaa.Ta
/- equ: does an equ lead to itself? -/
namespace Go.Proofs.Ytebbbefknfldoaa
open Go.ChangeShapes Go.WideShapes Go.ChangeAt Go.RowKit
set_option linter.unusedVariables false
set_option linter.unusedSimpArgs false
set_option maxRecDepth 100000
theorem str_beq (s t : List UInt8) : ((str s).toList == (str t).toList) = decide (s = t) := by
  rw [str_toList, str_toList]
  by_cases h : s = t
  · subst h; simp
  · rw [decide_eq_false h]
    exact beq_eq_false_iff_ne.2 h
theorem lead1 (s nm : List UInt8) (k : Int) (b : Nat) (w : World) (hb : b < w.heap.size) (hc : w.cell? ⟨b, 0, none⟩ = some (.string (str nm))) : Calls Try.prog 55 #[.agg #[.string (str s), .int .u32 k], .pointer (some ⟨b, 0, none⟩)] w fun e w' => e = .returned (.bool (decide (s = nm))) ∧ Below w.heap.size w w' := by
  have hB := below_alloc w (.cells #[.string (str s), .int .u32 k] 49)
  have hc2 : (w.alloc (.cells #[.string (str s), .int .u32 k] 49)).cell? ⟨b, 0, none⟩ = some (.string (str nm)) := (hB.cell (p := ⟨b, 0, none⟩) hb).trans hc
  have hB' := Hid.intro hB
  have hne : ¬ b = w.heap.size := by omega
  have hbe := str_beq s nm
  go_enter Try.func55, Try.ntmps55
  go_wp2
  all_goals first | omega | skip
  go_ret
  exact ⟨by first | rw [hbe] | rfl | (simp [hbe]), hB'.out⟩
def inT (nm : List UInt8) (ts : List Tm) : Bool := ts.any fun t => decide (t.name = nm)
theorem inT_take (nm : List UInt8) (l : List Tm) (i : Nat) (x : Tm) (hx : l[i]? = some x) : inT nm (l.take (i + 1)) = (inT nm (l.take i) || decide (x.name = nm)) := by
  unfold inT
  rw [List.take_add_one, hx]
  simp
set_option maxHeartbeats 4000000 in
theorem lead2 (nm : List UInt8) (b : Nat) (a : Option Addr) (c : Nat) (l : List Tm) (hl : l.length ≤ 4400000) (w : World) (hb : b < w.heap.size) (hc : w.cell? ⟨b, 0, none⟩ = some (.string (str nm))) (hI : TmLies w a l) : Calls Try.prog 68 #[.slice a l.length c, .func (.func 55) #[] #[.pointer (some ⟨b, 0, none⟩)]] w fun e w' => (∃ j : Int, e = .returned (.int .i64 j) ∧ decide (0 ≤ j) = inT nm l) ∧ Below w.heap.size w w' := by
  have hget : Hid (∀ wr i, Below w.heap.size w wr → i < l.length → ∃ x, l[i]? = some x ∧ ∃ g o, a = some ⟨g, o, none⟩ ∧ TmAt wr g (o + i * 2) x) := fun wr i hb i1 => by
    obtain ⟨x, hx⟩ : ∃ x, l[i]? = some x := ⟨_, List.getElem?_eq_getElem i1⟩
    refine ⟨x, hx, ?_⟩
    rcases hI with rfl | ⟨g, o, ha, hg, hI⟩
    · cases hx
    · exact ⟨g, o, ha, (hI i x hx).below hb hg⟩
  have h55 := Hid.intro (fun (wr : World) (s : List UInt8) (k : Int) (hB : Below w.heap.size w wr) => lead1 s nm k b wr (Nat.lt_of_lt_of_le hb hB.size) ((hB.cell (p := ⟨b, 0, none⟩) hb).trans hc))
  have hnx : Hid (∀ (i : Nat) (x : Tm), l[i]? = some x → inT nm (l.take i) = false → decide (x.name = nm) = false → inT nm (l.take (i + 1)) = false) := fun i x hx h1 h2 => by rw [inT_take nm l i x hx, h1, h2]; rfl
  have hyes : Hid (∀ (i : Nat) (x : Tm), l[i]? = some x → decide (x.name = nm) = true → inT nm l = true) := fun i x hx h1 => List.any_eq_true.2 ⟨x, List.mem_of_getElem? hx, h1⟩
  have hno : Hid (∀ i, i = l.length → inT nm (l.take i) = false → inT nm l = false) := fun i hi h1 => by rw [hi, List.take_length] at h1; exact h1
  generalize hA : inT nm l = AA at *
  obtain ⟨n0, hn0⟩ : ∃ n0, n0 = l.length := ⟨_, rfl⟩
  rw [← hn0] at hl hget hno ⊢
  clear hn0 hI hA hc
  go_enter Try.func68, Try.ntmps68
  go_wp2
  all_goals first | omega | skip
  go_loopw [8] (fun v8 wr => ∃ (i : Nat), i ≤ n0 ∧ v8 = .int .i64 (i : Int) ∧ Hid (Below w.heap.size w wr) ∧ Hid (inT nm (l.take i) = false)) (fun v8 _ => n0 - (intOf v8).toNat)
  case atStart => exact ⟨0, by omega, rfl, Below.refl _ _, rfl⟩
  case round =>
    obtain ⟨i, hi, rfl, hb, hn⟩ := hrel
    by_cases hin : i < n0
    · obtain ⟨x, hx, g, o, ha, ⟨d0, d1⟩⟩ := hget.out wr i hb.out hin
      have hx2 := Hid.intro hx
      have hm := Hid.intro (h55.out wr x.name x.coef hb.out)
      clear hx
      subst ha
      cases hq : decide (x.name = nm)
      · rw [hq] at hm
        have hnn := Hid.intro (hnx.out i x hx2.out hn.out hq)
        clear hq
        go_wp2_with (go_at_call 55; (with_reducible refine (hm.out).mono ?_); rintro e w2 ⟨rfl, hb2⟩; have hb3 := Hid.intro (hb.out.trans (hb2.mono hb.out.size)); clear hb2)
        all_goals first | omega | skip
        go_roundw
        case rel => exact ⟨i + 1, by omega, by go_num, hb3, hnn⟩
        case measure => simp [intOf]; omega
      · rw [hq] at hm
        have hyy := Hid.intro (hyes.out i x hx2.out hq)
        clear hq
        go_wp2_with (go_at_call 55; (with_reducible refine (hm.out).mono ?_); rintro e w2 ⟨rfl, hb2⟩; have hb3 := Hid.intro (hb.out.trans (hb2.mono hb.out.size)); clear hb2)
        all_goals first | omega | skip
        go_ret
        exact ⟨⟨_, rfl, by rw [hyy.out]; simp⟩, hb3.out⟩
    · obtain rfl : i = n0 := by omega
      have hnn := Hid.intro (hno.out i rfl hn.out)
      go_wp2_with fail
      all_goals first | omega | skip
      go_ret
      exact ⟨⟨_, rfl, by rw [hnn.out]; simp⟩, hb.out⟩
set_option maxHeartbeats 4000000 in
theorem lead3 (nm : List UInt8) (b : Nat) (a : Option Addr) (c : Nat) (l : List Tm) (hl : l.length ≤ 4400000) (w : World) (hb : b < w.heap.size) (hc : w.cell? ⟨b, 0, none⟩ = some (.string (str nm))) (hI : TmLies w a l) : Calls Try.prog 54 #[.slice a l.length c, .func (.func 55) #[] #[.pointer (some ⟨b, 0, none⟩)]] w fun e w' => e = .returned (.bool (inT nm l)) ∧ Below w.heap.size w w' := by
  have hh := Hid.intro (lead2 nm b a c l hl w hb hc hI)
  generalize inT nm l = AA at *
  generalize l.length = n0 at *
  clear hI hc
  go_enter Try.func54, Try.ntmps54
  go_wp2_with (go_at_call 68; (with_reducible refine (hh.out).mono ?_); rintro e w2 ⟨⟨j, rfl, hj⟩, hb2⟩; replace hj := Hid.intro hj; replace hb2 := Hid.intro hb2)
  all_goals first | omega | skip
  go_ret
  refine ⟨?_, hb2.out⟩
  rw [← hj.out]
  rfl
set_option maxHeartbeats 4000000 in
theorem leads_any (nm : List UInt8) (k : Int) (a : Option Addr) (c : Nat) (l : List Tm) (hl : l.length ≤ 4400000) (w : World) (hI : TmLies w a l) : Calls Try.prog 43 #[.agg #[.string (str nm), .slice a l.length c, .int .u32 k]] w fun e w' => e = .returned (.bool (inT nm l)) ∧ Below w.heap.size w w' := by
  have hB := below_alloc w (.cells #[.string (str nm), .slice a l.length c, .int .u32 k] 31)
  have h0 := heap_alloc_new w (.cells #[.string (str nm), .slice a l.length c, .int .u32 k] 31)
  have hc0 : (w.alloc (.cells #[.string (str nm), .slice a l.length c, .int .u32 k] 31)).cell? ⟨w.heap.size, 0, none⟩ = some (.string (str nm)) := (Joins.cell_of_block h0 0).trans rfl
  have hh := Hid.intro (lead3 nm w.heap.size a c l hl _ (by simp) hc0 (hI.below hB (Nat.le_refl _)))
  have hB' := Hid.intro hB
  generalize inT nm l = AA at *
  generalize l.length = n0 at *
  clear hI hc0 h0 hB
  go_enter Try.func43, Try.ntmps43
  go_wp2_with (go_at_call 54; (with_reducible refine (hh.out).mono ?_); rintro e w2 ⟨rfl, hb2⟩; replace hb2 := Hid.intro hb2)
  all_goals first | omega | skip
  go_ret
  exact ⟨rfl, hB'.out.trans (hb2.out.mono hB'.out.size)⟩
end Go.Proofs.Ytebbbefknfldoaa
/- equs in memory; the document's find. -/
namespace Go.Proofs.Ytebbbefknfldoaa
open Go.ChangeShapes Go.WideShapes Go.ChangeAt Go.RowKit
set_option linter.unusedVariables false
set_option linter.unusedSimpArgs false
set_option maxRecDepth 100000
abbrev Eqv := List UInt8 × Lin
structure EqAt (w : World) (g o : Nat) (q : Eqv) (va : Option Addr) (vc : Nat) : Prop where
  name : w.cell? ⟨g, o, none⟩ = some (.string (str q.1))
  terms : w.cell? ⟨g, o + 1, none⟩ = some (.slice va q.2.terms.length vc)
  const : w.cell? ⟨g, o + 2, none⟩ = some (.int .u32 q.2.const)
  lies : TmLies w va q.2.terms
def EqIn (w : World) (a : Option Addr) (l : List Eqv) : Prop := l = [] ∨ ∃ g o, a = some ⟨g, o, none⟩ ∧ g < w.heap.size ∧ ∀ (i : Nat) (q : Eqv), l[i]? = some q → ∃ va vc, EqAt w g (o + i * 3) q va vc
theorem EqAt.below {w w' : World} {g o : Nat} {q : Eqv} {va : Option Addr} {vc : Nat} (h : EqAt w g o q va vc) (hg : g < w.heap.size) (hb : Below w.heap.size w w') : EqAt w' g o q va vc :=
  ⟨(hb.cell (p := ⟨g, o, none⟩) hg).trans h.name, (hb.cell (p := ⟨g, o + 1, none⟩) hg).trans h.terms, (hb.cell (p := ⟨g, o + 2, none⟩) hg).trans h.const, h.lies.below hb (Nat.le_refl _)⟩
theorem EqIn.below {w w' : World} {a : Option Addr} {l : List Eqv} (h : EqIn w a l) (hb : Below w.heap.size w w') : EqIn w' a l := by
  rcases h with h | ⟨g, o, ha, hg, h⟩
  · exact .inl h
  · refine .inr ⟨g, o, ha, Nat.lt_of_lt_of_le hg hb.size, fun i q hi => ?_⟩
    obtain ⟨va, vc, h1⟩ := h i q hi
    exact ⟨va, vc, h1.below hg hb⟩
end Go.Proofs.Ytebbbefknfldoaa
namespace Go.Proofs.Ytebbbefknfldoaa
open Go.ChangeShapes Go.WideShapes Go.ChangeAt Go.RowKit
set_option linter.unusedVariables false
set_option linter.unusedSimpArgs false
set_option maxRecDepth 100000
theorem wblk_lt {w : World} {g : Nat} {x : Obj} (h : w.heap[g]? = some x) : g < w.heap.size := (Array.getElem?_eq_some_iff.1 h).1
theorem row_set {w : World} {g : Nat} {T : TypeId} {cur : Array Value} (h : w.heap[g]? = some (.cells cur T (0, 0))) (j : Nat) (y : Value) :
    (w.setCell ⟨g, j, none⟩ y).heap[g]? = some (.cells (cur.setIfInBounds j y) T (0, 0)) ∧ w.grownBy (w.setCell ⟨g, j, none⟩ y) (some g) := by
  refine ⟨heap_setCell_same w g j _ T y h, ⟨rfl, rfl, rfl, by simp, fun k hk hne => ?_⟩⟩
  have hk' : k ≠ g := fun e => hne (by rw [e])
  rw [heap_setCell_other _ _ _ _ hk']
def rowN (l : List Nat) : List Value := l.map fun (x : Nat) => Value.int .i64 (x : Int)
theorem rowN_len (l : List Nat) : (rowN l).length = l.length := by simp [rowN]
def metR (n : Nat) (m : Nat → Nat) : Array Value := ((List.range n).map fun i => Value.int .i64 (m i : Int)).toArray
theorem metR_get (n : Nat) (m : Nat → Nat) (i : Nat) (hi : i < n) : (metR n m)[i]? = some (.int .i64 (m i : Int)) := by simp [metR, hi]
theorem metR_set (n : Nat) (m : Nat → Nat) (i x : Nat) (hi : i < n) : (metR n m).setIfInBounds i (.int .i64 (x : Int)) = metR n (Ta.upd m i x) := by
  unfold metR
  rw [List.setIfInBounds_toArray]
  congr 1
  apply List.ext_getElem?
  intro j
  rw [List.getElem?_set]
  by_cases hj : i = j
  · subst hj
    rw [if_pos rfl]
    simp [Ta.upd, hi]
  · rw [if_neg hj]
    by_cases hjn : j < n
    · simp [Ta.upd, hjn, fun e => hj (Eq.symm e)]
      rw [if_neg (fun e => hj e.symm)]
    · simp [hjn]
def nmOf (l : List Eqv) (i : Nat) : List UInt8 := ((l[i]?).map (·.1)).getD []
def backF (l : List Eqv) (b : List Nat) : List UInt8 → Option Int := b.foldl (fun f i => fun x => if x = nmOf l i then some (i : Int) else f x) (fun _ => none)
theorem backF_snoc (l : List Eqv) (b : List Nat) (i : Nat) : backF l (b ++ [i]) = fun x => if x = nmOf l i then some (i : Int) else backF l b x := by
  unfold backF
  rw [List.foldl_append]
  rfl
theorem own_cut {w : World} {lo : Nat} {T : TypeId} {a : Option Addr} {n c : Nat} {xs : List Value} (h : w.ownsRow lo T 1 (.slice a n c) n xs) (m : Nat) (hm : m ≤ n) (h0 : 0 < n) : w.ownsRow lo T 1 (.slice a m c) m (xs.take m) := by
  refine ⟨by have := h.1; simp; omega, ?_⟩
  rcases h.2 with ⟨_, e⟩ | ⟨g, cap, cur, hv, k2, k3, k4, k5, k6, k7⟩
  · omega
  · injection hv with e1 e2 e3
    subst e1
    subst e3
    refine .inr ⟨g, c, cur, rfl, k2, k3, by omega, k5, k6, ?_⟩
    rw [← k7, List.take_take]
    congr 1
    omega
structure Apart (b : Nat → Nat) (lo hi : Nat) : Prop where
  inj : ∀ i j, i < 12 → j < 12 → b i = b j → i = j
  ge : ∀ i, i < 12 → lo ≤ b i
  lt : ∀ i, i < 12 → b i < hi
theorem Apart.ne {b : Nat → Nat} {lo hi : Nat} (h : Apart b lo hi) {i j : Nat} (hi : i < 12) (hj : j < 12) (hij : i ≠ j) : b i ≠ b j := fun e => hij (h.inj i j hi hj e)
abbrev bp (b : Nat → Nat) (i : Nat) : Value := .pointer (some ⟨b i, 0, none⟩)
abbrev finV (b : Nat → Nat) : Value := .func (.func 42) #[] #[bp b 0, bp b 1, bp b 2, bp b 3, bp b 4]
abbrev visV (b : Nat → Nat) : Value := .func (.func 44) #[] #[bp b 5, bp b 0, bp b 1, bp b 2, bp b 6, bp b 8, bp b 7]
structure FS (w0 : World) (b : Nat → Nat) (l : List Eqv) (la : Option Addr) (lc na nb : Nat) (s : Ta.St) (w : World) : Prop where
  bel : Below w0.heap.size w0 w
  lie : EqIn w0 la l
  ap : Apart b w0.heap.size w.heap.size
  op : ∃ a c, w.heap[b 0]? = some (.cells #[.slice a s.opn.length c] 65 (0, 0)) ∧ w.ownsRow w0.heap.size 3 1 (.slice a s.opn.length c) s.opn.length (rowN s.opn) ∧ (∀ g, (Value.slice a s.opn.length c).ownBlock = some g → ∀ i, i < 12 → g ≠ b i) ∧
    ∃ a2 c2, w.heap[b 4]? = some (.cells #[.slice a2 s.order.length c2] 65 (0, 0)) ∧ w.ownsRow w0.heap.size 3 1 (.slice a2 s.order.length c2) s.order.length (rowN s.order) ∧ (∀ g, (Value.slice a2 s.order.length c2).ownBlock = some g → (∀ i, i < 12 → g ≠ b i) ∧ (Value.slice a s.opn.length c).ownBlock ≠ some g)
  mb : w.heap[b 1]? = some (.cells #[.slice (some ⟨b 9, 0, none⟩) l.length l.length] 65 (0, 0))
  mm : w.heap[b 9]? = some (.cells (metR l.length s.met) 3 (0, 0))
  lb : w.heap[b 2]? = some (.cells #[.slice la l.length lc] 22 (0, 0))
  kb : w.heap[b 3]? = some (.cells #[.map (some (b 10))] 66 (0, 0))
  kk : IntIs w (b 10) nb (backF l s.back)
  cb : w.heap[b 5]? = some (.cells #[.int .i64 (s.count : Int)] 3 (0, 0))
  ab : w.heap[b 6]? = some (.cells #[.map (some (b 11))] 66 (0, 0))
  aa : IntIs w (b 11) na (backF l (List.range l.length))
  fb : w.heap[b 7]? = some (.cells #[finV b] 84 (0, 0))
  vb : w.heap[b 8]? = some (.cells #[visV b] 85 (0, 0))
section
variable {w0 w w' w1 : World} {b : Nat → Nat} {l : List Eqv} {la : Option Addr} {lc na nb : Nat} {s : Ta.St}
theorem own_row {lo : Nat} {T : TypeId} {sz : Nat} {v : Value} {n : Nat} {xs : List Value} {k : Option Nat} (h : w.ownsRow lo T sz v n xs) (hk : ∀ g, v.ownBlock = some g → k ≠ some g) (hg : w.grownBy w' k) : w'.ownsRow lo T sz v n xs := by
  refine ⟨h.1, ?_⟩
  rcases h.2 with hx | ⟨g, cap, cur, k1, k2, k3, k4⟩
  · exact .inl hx
  · exact .inr ⟨g, cap, cur, k1, k2, (hg.block g (wblk_lt k3) (fun e => hk g (by rw [k1]; rfl) e.symm)).trans k3, k4⟩
theorem Apart.more {lo hi hi' : Nat} (h : Apart b lo hi) (hh : hi ≤ hi') : Apart b lo hi' := ⟨h.inj, h.ge, fun i hi => Nat.lt_of_lt_of_le (h.lt i hi) hh⟩
theorem FS.kp (h : FS w0 b l la lc na nb s w) {j : Nat} (hj : j < 12) (k1 : w.grownBy w' (some (b j))) {i : Nat} (hi : i < 12) (hij : i ≠ j) {ob : Obj} (hh : w.heap[b i]? = some ob) : w'.heap[b i]? = some ob :=
  (k1.block _ (wblk_lt hh) (fun e => h.ap.ne hi hj hij (Option.some.inj e))).trans hh
theorem FS.mp (h : FS w0 b l la lc na nb s w) {j : Nat} (hj : j < 12) (k1 : w.grownBy w' (some (b j))) {i n : Nat} (hi : i < 12) (hij : i ≠ j) {f : List UInt8 → Option Int} (hh : IntIs w (b i) n f) : IntIs w' (b i) n f :=
  hh.kept k1 (fun e => h.ap.ne hi hj hij (Option.some.inj e))
theorem FS.rows (h : FS w0 b l la lc na nb s w) {j : Nat} (hj : j < 12) (h0 : j ≠ 0) (h4 : j ≠ 4) (k1 : w.grownBy w' (some (b j))) : ∃ a c, w'.heap[b 0]? = some (.cells #[.slice a s.opn.length c] 65 (0, 0)) ∧ w'.ownsRow w0.heap.size 3 1 (.slice a s.opn.length c) s.opn.length (rowN s.opn) ∧ (∀ g, (Value.slice a s.opn.length c).ownBlock = some g → ∀ i, i < 12 → g ≠ b i) ∧
    ∃ a2 c2, w'.heap[b 4]? = some (.cells #[.slice a2 s.order.length c2] 65 (0, 0)) ∧ w'.ownsRow w0.heap.size 3 1 (.slice a2 s.order.length c2) s.order.length (rowN s.order) ∧ (∀ g, (Value.slice a2 s.order.length c2).ownBlock = some g → (∀ i, i < 12 → g ≠ b i) ∧ (Value.slice a s.opn.length c).ownBlock ≠ some g) := by
  obtain ⟨a, c, o1, o2, o3, a2, c2, r1, r2, r3⟩ := h.op
  exact ⟨a, c, h.kp hj k1 (by decide) (Ne.symm h0) o1, own_row o2 (fun g hg e => o3 g hg j hj (by cases e; rfl)) k1, o3, a2, c2, h.kp hj k1 (by decide) (Ne.symm h4) r1, own_row r2 (fun g hg e => (r3 g hg).1 j hj (by cases e; rfl)) k1, r3⟩
theorem FS.bel' (h : FS w0 b l la lc na nb s w) {j : Nat} (hj : j < 12) (k1 : w.grownBy w' (some (b j))) : Below w0.heap.size w0 w' := h.bel.grown k1 h.bel.size (fun g e => by cases e; exact h.ap.ge j hj)
theorem FS.below (h : FS w0 b l la lc na nb s w) (hb : Below w.heap.size w w') : FS w0 b l la lc na nb s w' := by
  have hg : w.grownBy w' none := ⟨hb.os, hb.tape, hb.output, hb.size, fun k hk _ => hb.block k hk⟩
  have kp : ∀ {i : Nat} {ob : Obj}, w.heap[i]? = some ob → w'.heap[i]? = some ob := fun hh => (hb.block _ (wblk_lt hh)).trans hh
  obtain ⟨a, c, o1, o2, o3, a2, c2, r1, r2, r3⟩ := h.op
  exact ⟨h.bel.trans (hb.mono h.bel.size), h.lie, h.ap.more hb.size, ⟨a, c, kp o1, own_row o2 (fun g _ e => by cases e) hg, o3, a2, c2, kp r1, own_row r2 (fun g _ e => by cases e) hg, r3⟩, kp h.mb, kp h.mm, kp h.lb, kp h.kb, h.kk.kept hg (by simp), kp h.cb, kp h.ab, h.aa.kept hg (by simp), kp h.fb, kp h.vb⟩
theorem FS.metSet (h : FS w0 b l la lc na nb s w) (i x : Nat) (hi : i < l.length) : FS w0 b l la lc na nb { s with met := Ta.upd s.met i x } (w.setCell ⟨b 9, i, none⟩ (.int .i64 (x : Int))) ∧ w.grownBy (w.setCell ⟨b 9, i, none⟩ (.int .i64 (x : Int))) (some (b 9)) := by
  obtain ⟨s1, k1⟩ := row_set h.mm i (.int .i64 (x : Int))
  rw [metR_set _ _ _ _ hi] at s1
  have d : (9 : Nat) < 12 := by decide
  exact ⟨⟨h.bel' d k1, h.lie, h.ap.more k1.size, h.rows d (by decide) (by decide) k1, h.kp d k1 (by decide) (by decide) h.mb, s1, h.kp d k1 (by decide) (by decide) h.lb, h.kp d k1 (by decide) (by decide) h.kb, h.mp d k1 (by decide) (by decide) h.kk, h.kp d k1 (by decide) (by decide) h.cb, h.kp d k1 (by decide) (by decide) h.ab, h.mp d k1 (by decide) (by decide) h.aa, h.kp d k1 (by decide) (by decide) h.fb, h.kp d k1 (by decide) (by decide) h.vb⟩, k1⟩
theorem FS.backPut (h : FS w0 b l la lc na nb s w) (i : Nat) (hk : IntIs w' (b 10) (nb + 1) (fun x => if x = nmOf l i then some (i : Int) else backF l s.back x)) (k1 : w.grownBy w' (some (b 10))) : FS w0 b l la lc na (nb + 1) { s with back := s.back ++ [i] } w' := by
  have d : (10 : Nat) < 12 := by decide
  exact ⟨h.bel' d k1, h.lie, h.ap.more k1.size, h.rows d (by decide) (by decide) k1, h.kp d k1 (by decide) (by decide) h.mb, h.kp d k1 (by decide) (by decide) h.mm, h.kp d k1 (by decide) (by decide) h.lb, h.kp d k1 (by decide) (by decide) h.kb, by rw [backF_snoc]; exact hk, h.kp d k1 (by decide) (by decide) h.cb, h.kp d k1 (by decide) (by decide) h.ab, h.mp d k1 (by decide) (by decide) h.aa, h.kp d k1 (by decide) (by decide) h.fb, h.kp d k1 (by decide) (by decide) h.vb⟩
theorem FS.cntSet (h : FS w0 b l la lc na nb s w) (x : Nat) : FS w0 b l la lc na nb { s with count := x } (w.setCell ⟨b 5, 0, none⟩ (.int .i64 (x : Int))) ∧ w.grownBy (w.setCell ⟨b 5, 0, none⟩ (.int .i64 (x : Int))) (some (b 5)) := by
  obtain ⟨s1, k1⟩ := row_set h.cb 0 (.int .i64 (x : Int))
  have d : (5 : Nat) < 12 := by decide
  exact ⟨⟨h.bel' d k1, h.lie, h.ap.more k1.size, h.rows d (by decide) (by decide) k1, h.kp d k1 (by decide) (by decide) h.mb, h.kp d k1 (by decide) (by decide) h.mm, h.kp d k1 (by decide) (by decide) h.lb, h.kp d k1 (by decide) (by decide) h.kb, h.mp d k1 (by decide) (by decide) h.kk, s1, h.kp d k1 (by decide) (by decide) h.ab, h.mp d k1 (by decide) (by decide) h.aa, h.kp d k1 (by decide) (by decide) h.fb, h.kp d k1 (by decide) (by decide) h.vb⟩, k1⟩
theorem FS.cut (h : FS w0 b l la lc na nb s w) {a : Option Addr} {c : Nat} (ho : w.heap[b 0]? = some (.cells #[.slice a s.opn.length c] 65 (0, 0))) (m : Nat) (hm : m ≤ s.opn.length) (h0 : 0 < s.opn.length) : FS w0 b l la lc na nb { s with opn := s.opn.take m } (w.setCell ⟨b 0, 0, none⟩ (.slice a m c)) ∧ w.grownBy (w.setCell ⟨b 0, 0, none⟩ (.slice a m c)) (some (b 0)) := by
  obtain ⟨a', c', o1, o2, o3, a2, c2, r1, r2, r3⟩ := h.op
  rw [ho] at o1
  simp only [Option.some.injEq, Obj.cells.injEq, Array.mk.injEq, List.cons.injEq, Value.slice.injEq, true_and, and_true] at o1
  obtain ⟨rfl, rfl⟩ := o1
  obtain ⟨s1, k1⟩ := row_set ho 0 (.slice a m c)
  have d : (0 : Nat) < 12 := by decide
  have e1 : (s.opn.take m).length = m := by simp; omega
  have hob : ∀ g, (Value.slice a m c).ownBlock = some g ↔ (Value.slice a s.opn.length c).ownBlock = some g := fun g => by cases a <;> rfl
  have o4 := own_row (own_cut o2 m hm h0) (k := some (b 0)) (fun g hg e => o3 g ((hob g).1 hg) 0 d (by cases e; rfl)) k1
  refine ⟨⟨h.bel' d k1, h.lie, h.ap.more k1.size, ⟨a, c, by rw [e1]; exact s1, ?_, by rw [e1]; exact fun g hg => o3 g ((hob g).1 hg), a2, c2, h.kp d k1 (by decide) (by decide) r1, own_row r2 (fun g hg e => (r3 g hg).1 0 d (by cases e; rfl)) k1, by rw [e1]; exact fun g hg => ⟨(r3 g hg).1, fun e => (r3 g hg).2 ((hob g).1 e)⟩⟩, h.kp d k1 (by decide) (by decide) h.mb, h.kp d k1 (by decide) (by decide) h.mm, h.kp d k1 (by decide) (by decide) h.lb, h.kp d k1 (by decide) (by decide) h.kb, h.mp d k1 (by decide) (by decide) h.kk, h.kp d k1 (by decide) (by decide) h.cb, h.kp d k1 (by decide) (by decide) h.ab, h.mp d k1 (by decide) (by decide) h.aa, h.kp d k1 (by decide) (by decide) h.fb, h.kp d k1 (by decide) (by decide) h.vb⟩, k1⟩
  rw [e1, show rowN (s.opn.take m) = (rowN s.opn).take m by unfold rowN; rw [List.map_take]]
  exact o4
end
end Go.Proofs.Ytebbbefknfldoaa
