/- Terms are sorted by name. -/
import Derived.Test.YtebbbefknfldoaaLinM
import Derived.Handy
import Derived.Shelf.SlGeneric
import Derived.Shelf.SlSortCmp.WholeK
import Derived.Shelf.SlicesQ.Equal
import Derived.Shelf.Slices.Turned
import Derived.Test.YtebbbefknfldoaaProg
import Derived.Shelf.SlSortCmp.NoneTotal
/- What an expression is, as a function on its tokens. -/
namespace Go.Proofs.Ytebbbefknfldoaa
set_option linter.unusedVariables false
structure Lin where
  terms : List Tm
  const : Int
abbrev PRes := Except Int (Lin × List Tok)
structure GoodL (x : Lin) : Prop where
  canon : Canon x.terms
  lo : 0 ≤ x.const
  hi : x.const < 4294967296
structure Fine (W : List Tok → PRes) : Prop where
  len : ∀ ts x r, W ts = .ok (x, r) → x.terms.length + r.length ≤ ts.length
  good : ∀ ts x r, W ts = .ok (x, r) → GoodL x
  err : ∀ ts e, W ts = .error e → e = 20 ∨ e = 21
end Go.Proofs.Ytebbbefknfldoaa
/- Terms in memory. -/
namespace Go.Proofs.Ytebbbefknfldoaa
open Go.ChangeShapes Go.WideShapes Go.ChangeAt Go.RowKit
set_option linter.unusedVariables false
set_option maxRecDepth 100000
def Tm.cells (t : Tm) : List Value := [.string (str t.name), .int .u32 t.coef]
def rowT (ts : List Tm) : List Value := ts.flatMap Tm.cells
theorem rowT_push (acc : List Tm) (t : Tm) : rowT (acc ++ [t]) = rowT acc ++ t.cells := by simp [rowT]
theorem rowT_append (a b : List Tm) : rowT (a ++ b) = rowT a ++ rowT b := by simp [rowT]
theorem rowT_length (ts : List Tm) : (rowT ts).length = ts.length * 2 := by
  induction ts with
  | nil => rfl
  | cons x ts ih =>
    have hx : rowT (x :: ts) = x.cells ++ rowT ts := by simp [rowT]
    have hl : x.cells.length = 2 := rfl
    rw [hx, List.length_append, ih, hl, List.length_cons]
    omega
theorem rowT_get (ts : List Tm) (i f : Nat) (t : Tm) (hi : ts[i]? = some t) (hf : f < 2) : (rowT ts)[i * 2 + f]? = t.cells[f]? := by
  induction ts generalizing i with
  | nil => simp at hi
  | cons x ts ih =>
    have hx : rowT (x :: ts) = x.cells ++ rowT ts := by simp [rowT]
    have hl : x.cells.length = 2 := rfl
    rw [hx]
    cases i with
    | zero =>
      simp at hi
      subst hi
      rw [Nat.zero_mul, Nat.zero_add, List.getElem?_append_left (by omega)]
    | succ i =>
      simp at hi
      rw [List.getElem?_append_right (by omega), hl, show (i + 1) * 2 + f - 2 = i * 2 + f by omega]
      exact ih i hi
theorem below_alloc (w : World) (o : Obj) : Below w.heap.size w (w.alloc o) := (Below.refl _ w).alloc (Nat.le_refl _) o
structure TmAt (w : World) (g o : Nat) (t : Tm) : Prop where
  name : w.cell? ⟨g, o, none⟩ = some (.string (str t.name))
  coef : w.cell? ⟨g, o + 1, none⟩ = some (.int .u32 t.coef)
theorem TmAt.below {w w' : World} {g o : Nat} {t : Tm} {B : Nat} (h : TmAt w g o t) (hb : Below B w w') (hg : g < B) : TmAt w' g o t :=
  ⟨by rw [hb.cell (p := ⟨g, o, none⟩) hg]; exact h.name, by rw [hb.cell (p := ⟨g, o + 1, none⟩) hg]; exact h.coef⟩
def TmLies (w : World) (a : Option Addr) (ts : List Tm) : Prop := ts = [] ∨ ∃ g o, a = some ⟨g, o, none⟩ ∧ g < w.heap.size ∧ ∀ i t, ts[i]? = some t → TmAt w g (o + i * 2) t
theorem TmLies.below {w w' : World} {a : Option Addr} {ts : List Tm} {B : Nat} (h : TmLies w a ts) (hb : Below B w w') (hB : w.heap.size ≤ B) : TmLies w' a ts := by
  rcases h with h | ⟨g, o, ha, hg, h⟩
  · exact .inl h
  · exact .inr ⟨g, o, ha, Nat.lt_of_lt_of_le hg hb.size, fun i t hi => (h i t hi).below hb (by omega)⟩
theorem TmLies.nil (w : World) (a : Option Addr) : TmLies w a [] := .inl rfl
theorem own_slice {w : World} {lo : Nat} {T : TypeId} {sz : Nat} {v : Value} {n : Nat} {xs : List Value} (h : w.ownsRow lo T sz v n xs) : ∃ a c, v = .slice a n c := by
  obtain ⟨hl, ⟨hv, h0⟩ | ⟨g, cap, cur, hv, r⟩⟩ := h
  · exact ⟨none, 0, by rw [hv, h0]⟩
  · exact ⟨_, cap, hv⟩
theorem own_tmLies {w : World} {B : Nat} {a : Option Addr} {c : Nat} {ts : List Tm} (h : w.ownsRow B 49 2 (.slice a ts.length c) ts.length (rowT ts)) : TmLies w a ts := by
  have h' := h
  obtain ⟨hl, ⟨hv, h0⟩ | ⟨g, cap, cur, hv, hbg, hg, r⟩⟩ := h
  · exact .inl (List.eq_nil_of_length_eq_zero h0)
  · injection hv with hv _ hv3
    subst hv
    refine .inr ⟨g, 0, rfl, (Array.getElem?_eq_some_iff.1 hg).1, fun i t hi => ?_⟩
    have hlt := (List.getElem?_eq_some_iff.1 hi).1
    have key : ∀ f, f < 2 → w.cell? ⟨g, i * 2 + f, none⟩ = t.cells[f]? := fun f hf => by rw [h'.cellAt _ (by rw [rowT_length] at hl; omega), rowT_get ts i f t hi hf]
    rw [Nat.zero_add]
    exact ⟨key 0 (by omega), key 1 (by omega)⟩
theorem own_weaken {w : World} {lo B : Nat} {T : TypeId} {sz : Nat} {v : Value} {n : Nat} {xs : List Value} (h : w.ownsRow lo T sz v n xs) (hB : B ≤ lo) : w.ownsRow B T sz v n xs := by
  refine ⟨h.1, ?_⟩
  rcases h.2 with hx | ⟨g, cap, cur, k1, k2, k3⟩
  · exact .inl hx
  · exact .inr ⟨g, cap, cur, k1, by omega, k3⟩
theorem own_type {w : World} {lo : Nat} {T : TypeId} {sz : Nat} {v : Value} {n : Nat} {xs : List Value} (h : w.ownsRow lo T sz v n xs) {g : Nat} (hg : v.ownBlock = some g) : ∃ cur, w.heap[g]? = some (.cells cur T (0, 0)) := by
  rcases h.2 with ⟨rfl, _⟩ | ⟨g', cap, cur, rfl, _, hgg, _⟩
  · simp [Value.ownBlock] at hg
  · simp [Value.ownBlock] at hg
    subst hg
    exact ⟨cur, hgg⟩
theorem own_low {w w' : World} {lo k : Nat} {T : TypeId} {sz : Nat} {v : Value} {n : Nat} {xs : List Value} (h : w.ownsRow lo T sz v n xs) (hg : w.grownBy w' (some k)) (hk : k < lo) : w'.ownsRow lo T sz v n xs :=
  h.kept hg (by
    cases hb : v.ownBlock with
    | none => exact .inl rfl
    | some g =>
      refine .inr fun e => ?_
      have := (h.lt g hb).1
      injection e with e
      omega)
structure Two (w : World) (g : Nat) (T : TypeId) (x y : Value) : Prop where
  heap : w.heap[g]? = some (.cells #[x, y] T (0, 0))
  c0 : w.cell? ⟨g, 0, none⟩ = some x
  c1 : w.cell? ⟨g, 1, none⟩ = some y
  f0 : w.frozen? ⟨g, 0, none⟩ = false
  f1 : w.frozen? ⟨g, 1, none⟩ = false
theorem two_of {w : World} {g : Nat} {T : TypeId} {x y : Value} (h : w.heap[g]? = some (.cells #[x, y] T (0, 0))) : Two w g T x y :=
  ⟨h, by rw [cell_of_row w g 0 _ T (0, 0) h]; rfl, by rw [cell_of_row w g 1 _ T (0, 0) h]; rfl, frozen_of_row w g 0 _ T h, frozen_of_row w g 1 _ T h⟩
theorem Two.alloc {w : World} {g : Nat} {T : TypeId} {x y : Value} (h : Two w g T x y) (o : Obj) : Two (w.alloc o) g T x y :=
  two_of (by rw [Below.heap_alloc w o g (Array.getElem?_eq_some_iff.1 h.heap).1]; exact h.heap)
theorem Two.a0 {w : World} {g : Nat} {T : TypeId} {x y : Value} (h : Two w g T x y) : ∀ o, (w.alloc o).cell? ⟨g, 0, none⟩ = some x := fun o => (h.alloc o).c0
theorem Two.a1 {w : World} {g : Nat} {T : TypeId} {x y : Value} (h : Two w g T x y) : ∀ o, (w.alloc o).cell? ⟨g, 1, none⟩ = some y := fun o => (h.alloc o).c1
theorem Two.b0 {w : World} {g : Nat} {T : TypeId} {x y : Value} (h : Two w g T x y) : ∀ o, (w.alloc o).frozen? ⟨g, 0, none⟩ = false := fun o => (h.alloc o).f0
theorem Two.b1 {w : World} {g : Nat} {T : TypeId} {x y : Value} (h : Two w g T x y) : ∀ o, (w.alloc o).frozen? ⟨g, 1, none⟩ = false := fun o => (h.alloc o).f1
theorem two_new (w : World) (T : TypeId) (x y : Value) : Two (w.alloc (.cells #[x, y] T)) w.heap.size T x y := two_of (heap_alloc_new w _)
theorem Two.grown {w w' : World} {g : Nat} {T : TypeId} {x y : Value} {k : Option Nat} (h : Two w g T x y) (hg : w.grownBy w' k) (hk : k ≠ some g) : Two w' g T x y :=
  two_of (by rw [hg.block g (Array.getElem?_eq_some_iff.1 h.heap).1 (fun e => hk e.symm)]; exact h.heap)
theorem Two.below {w w' : World} {g B : Nat} {T : TypeId} {x y : Value} (h : Two w g T x y) (hb : Below B w w') (hg : g < B) : Two w' g T x y := two_of (by rw [hb.block g hg]; exact h.heap)
theorem two_set {w : World} {g : Nat} {T : TypeId} {cur : Array Value} (h : w.heap[g]? = some (.cells cur T (0, 0))) (hc : cur.size = 2) (x y : Value) :
    Two ((w.setCell ⟨g, 0, none⟩ x).setCell ⟨g, 1, none⟩ y) g T x y ∧ w.grownBy ((w.setCell ⟨g, 0, none⟩ x).setCell ⟨g, 1, none⟩ y) (some g) := by
  have h1 := heap_setCell_same w g 0 cur T x h
  have h2 := heap_setCell_same _ g 1 _ T y h1
  refine ⟨two_of ?_, ?_⟩
  · rw [h2]
    obtain ⟨l⟩ := cur
    match l, hc with
    | [a, b], _ => rfl
  · refine ⟨rfl, rfl, rfl, by simp, fun k hk hne => ?_⟩
    have hk' : k ≠ g := fun e => hne (by rw [e])
    rw [heap_setCell_other _ _ _ _ hk', heap_setCell_other _ _ _ _ hk']
theorem cells_new2 (w : World) (o : Obj) (cs : Array Value) (T : TypeId) : ∀ j u, cs.toList[j]? = some u → ((w.alloc o).alloc (.cells cs T)).cell? ((⟨w.heap.size + 1, 0, none⟩ : Addr).add j) = some u := by
  intro j u h
  have := cells_new (w.alloc o) cs T j u h
  rwa [show (w.alloc o).heap.size = w.heap.size + 1 by simp] at this
theorem two_put {w : World} {g : Nat} {T : TypeId} {x y : Value} (h : Two w g T x y) (z : Value) : Two (w.setCell ⟨g, 0, none⟩ z) g T z y ∧ w.grownBy (w.setCell ⟨g, 0, none⟩ z) (some g) := by
  have h1 := heap_setCell_same w g 0 _ T z h.heap
  refine ⟨two_of h1, ⟨rfl, rfl, rfl, by simp, fun k hk hne => ?_⟩⟩
  have hk' : k ≠ g := fun e => hne (by rw [e])
  rw [heap_setCell_other _ _ _ _ hk']
theorem two_put1 {w : World} {g : Nat} {T : TypeId} {x y : Value} (h : Two w g T x y) (z : Value) : Two (w.setCell ⟨g, 1, none⟩ z) g T x z ∧ w.grownBy (w.setCell ⟨g, 1, none⟩ z) (some g) := by
  have h1 := heap_setCell_same w g 1 _ T z h.heap
  refine ⟨two_of h1, ⟨rfl, rfl, rfl, by simp, fun k hk hne => ?_⟩⟩
  have hk' : k ≠ g := fun e => hne (by rw [e])
  rw [heap_setCell_other _ _ _ _ hk']
theorem grown_trans {a b c : World} {r : Option Nat} (h : a.grownBy b r) (k : b.grownBy c r) : a.grownBy c r :=
  ⟨k.os.trans h.os, k.tape.trans h.tape, k.output.trans h.output, Nat.le_trans h.size k.size, fun i hi hn => by rw [k.block i (Nat.lt_of_lt_of_le hi h.size) hn, h.block i hi hn]⟩
theorem Try.info56 : (Try.prog.info? 49).map (fun i => (i.zero, i.size, i.bytes)) = some (some (.agg #[.string ⟨#[]⟩, .int .u32 0]), 2, 24) := by kernel_rfl
abbrev linV (v : Value) (k : Int) : Value := .agg #[v, .int .u32 k]
end Go.Proofs.Ytebbbefknfldoaa
/- expr.Of, Named, Times. -/
namespace Go.Proofs.Ytebbbefknfldoaa
open Go.ChangeShapes Go.WideShapes Go.ChangeAt Go.RowKit
set_option linter.unusedVariables false
set_option maxRecDepth 100000
structure TSt (w : World) (ts : List Tm) (n k : Int) (i : Nat) (v : Value) (wr : World) : Prop where
  le : i ≤ ts.length
  res : Two wr (w.heap.size + 1) 29 (.slice none 0 0) (.int .u32 0)
  out : Two wr (w.heap.size + 1 + 1) 29 v (.int .u32 (k * n % 4294967296))
  own : wr.ownsRow (w.heap.size + 1 + 1 + 1) 49 2 v (timesT (ts.take i) n).length (rowT (timesT (ts.take i) n))
  bel : Below w.heap.size w wr
  size : w.heap.size + 1 + 1 + 1 ≤ wr.heap.size
theorem take_at {α : Type} (ts : List α) (i : Nat) (t : α) (h : ts[i]? = some t) : ts.take (i + 1) = ts.take i ++ [t] := by
  obtain ⟨hi, he⟩ := List.getElem?_eq_some_iff.1 h
  rw [List.take_add_one, h]
  rfl
theorem times_next {w : World} {ts : List Tm} {n k : Int} {i L c1 : Nat} {a1 : Option Addr} {wr : World} (h : TSt w ts n k i (.slice a1 L c1) wr) (t : Tm) (ht : ts[i]? = some t) :
    (t.coef * n % 4294967296 = 0 → ∀ o, TSt w ts n k (i + 1) (.slice a1 L c1) (wr.alloc o)) ∧
    (t.coef * n % 4294967296 ≠ 0 → ∀ o o2 v2 w3 w4, w3.ownsRow (w.heap.size + 1 + 1 + 1) 49 2 v2 (L + 1) (rowT (timesT (ts.take i) n) ++ [.string (str t.name), .int .u32 (t.coef * n % 4294967296)]) → ((wr.alloc o).alloc o2).grownBy w3 (Value.slice a1 L c1).ownBlock → w4 = w3.setCell ⟨w.heap.size + 1 + 1, 0, none⟩ v2 → TSt w ts n k (i + 1) v2 w4) := by
  have hi := (List.getElem?_eq_some_iff.1 ht).1
  have hsz := h.size
  have htk : timesT (ts.take (i + 1)) n = timesT (ts.take i) n ++ emit t.name (t.coef * n % 4294967296) [] := by
    rw [take_at ts i t ht, timesT_append, timesT_cons, timesT_nil]
  constructor
  · intro hz o
    refine ⟨by omega, h.res.alloc o, h.out.alloc o, ?_, h.bel.alloc (by omega) o, by simp; omega⟩
    rw [htk, emit, if_pos hz, List.append_nil]
    exact h.own.alloc o
  · intro hz o o2 v2 w3 w4 hown hg hw4
    subst hw4
    have hnb : (Value.slice a1 L c1).ownBlock ≠ some (w.heap.size + 1) := fun e => by have := (h.own.lt _ e).1; omega
    have hnb2 : (Value.slice a1 L c1).ownBlock ≠ some (w.heap.size + 1 + 1) := fun e => by have := (h.own.lt _ e).1; omega
    have hr := ((h.res.alloc o).alloc o2).grown hg hnb
    have ho := ((h.out.alloc o).alloc o2).grown hg hnb2
    obtain ⟨s1, s2⟩ := two_put ho v2
    have hs3 := hg.size
    simp at hs3
    refine ⟨by omega, hr.grown s2 (by simp), s1, ?_, ?_, ?_⟩
    · rw [htk, emit, if_neg hz, rowT_push, List.length_append]
      refine own_low ?_ s2 (by omega)
      have hL : (timesT (ts.take i) n).length = L := by
        have h1 := h.own.1
        have h2 := own_slice h.own
        obtain ⟨a', c', h2⟩ := h2
        injection h2 with _ h2 _
        exact h2.symm
      rw [hL]
      exact hown
    · refine Below.grown ?_ s2 (by omega) (fun j hj => by cases hj; omega)
      exact ((h.bel.alloc (by omega) o).alloc (by simp; omega) o2).grown hg (by simp; omega) (fun j hj => by have := (h.own.lt _ hj).1; omega)
    · have := s2.size
      omega
set_option maxHeartbeats 2000000 in
theorem times_any (a : Option Addr) (c : Nat) (ts : List Tm) (k n : Int) (hl : ts.length ≤ 4400000) (w : World) (hT : TmLies w a ts) :
    Calls Try.prog 46 #[linV (.slice a ts.length c) k, .int .u32 n] w fun e w' => Below w.heap.size w w' ∧ ∃ v, e = .returned (linV v (k * n % 4294967296)) ∧ w'.ownsRow w.heap.size 49 2 v (timesT ts n).length (rowT (timesT ts n)) := by
  obtain ⟨n0, hn0⟩ : ∃ n0, n0 = ts.length := ⟨_, rfl⟩
  rw [← hn0] at hl ⊢
  have hTH := Hid.intro hT
  have hnH := Hid.intro hn0
  clear hT hn0
  obtain ⟨i0, hi, hz0, hz1, hz2⟩ := info_parts Try.info56
  go_enter Try.func46, Try.ntmps46
  go_wp2
  go_loopw [16] (fun vi wr => ∃ (i : Nat) (v : Value), vi = .int .i64 (i : Int) ∧ Hid (TSt w ts n k i v wr)) (fun vi _ => n0 - (intOf vi).toNat)
  case atStart =>
    refine ⟨0, .slice none 0 0, rfl, ⟨Nat.zero_le _, ?_, ?_, World.ownsRow_nil _ _ _ _, ?_, by simp⟩⟩
    · have := (two_new (w.alloc (.cells #[.slice a n0 c, .int .u32 k] 29)) 29 (.slice none 0 0) (.int .u32 0)).alloc (.cells #[.slice none 0 0, .int .u32 (k * n % 4294967296)] 29)
      simpa using this
    · have := two_new ((w.alloc (.cells #[.slice a n0 c, .int .u32 k] 29)).alloc (.cells #[.slice none 0 0, .int .u32 0] 29)) 29 (.slice none 0 0) (.int .u32 (k * n % 4294967296))
      simpa using this
    · exact (((below_alloc w _).alloc (by simp) _).alloc (by simp; omega) _)
  case round =>
    obtain ⟨i, v, rfl, hS⟩ := hrel
    have hle := hS.out.le
    rw [← hnH.out] at hle
    obtain ⟨a1, c1, rfl⟩ := own_slice hS.out.own
    obtain ⟨L, hL⟩ : ∃ L, L = (timesT (ts.take i) n).length := ⟨_, rfl⟩
    have hown := hS.out.own
    rw [← hL] at hown hS
    have hLl : L ≤ 4400000 := by
      rw [hL]
      have := times_len (ts.take i) n
      rw [List.length_take] at this
      omega
    have hownH := Hid.intro hown
    have hLH := Hid.intro hL
    clear hown hL
    have hsz := hS.out.size
    by_cases hlt : i < n0
    · obtain ⟨t, ht⟩ : ∃ t, ts[i]? = some t := ⟨ts[i]'(by rw [← hnH.out]; exact hlt), List.getElem?_eq_getElem _⟩
      have htH := Hid.intro ht
      clear ht
      rcases hTH.out with hx | ⟨g, o, rfl, hg, hT⟩
      · rw [hx] at hnH; have := hnH.out; simp at this; omega
      have hgr : g < wr.heap.size := Nat.lt_of_lt_of_le hg hS.out.bel.size
      obtain ⟨q0, q1⟩ := (hT i t htH.out).below hS.out.bel hg
      clear hT
      have hnext := Hid.intro (times_next hS.out t htH.out)
      obtain ⟨oh, o0, o1, of0, of1⟩ := hS.out.out
      have ho := Hid.intro (two_of oh)
      have oa0 := ho.out.a0
      have ob0 := ho.out.b0
      clear oh
      by_cases hz : t.coef * n % 4294967296 = 0
      · have hz' : (t.coef * n % 4294967296 != 0) = false := by simp [hz]
        go_wp2
        all_goals first | omega | skip
        go_roundw
        case rel => exact ⟨i + 1, .slice a1 L c1, by go_num, Hid.intro (hnext.out.1 hz _)⟩
        case measure => simp [intOf]; omega
      · have hz' : (t.coef * n % 4294967296 != 0) = true := by simp [hz]
        go_wp2_with (at_builtin; go_must (refine wpList_append_own_wide _ rfl (.tmp 29) (.tmp 31) 26 rfl (w.heap.size + 1 + 1 + 1) 49 i0 (.agg #[.string ⟨#[]⟩, .int .u32 0]) 2 24 Try.underlying26 hi hz0 hz1 hz2 rfl (by decide) (.slice a1 L c1) L _ rfl ((hownH.out.alloc _).alloc _) ⟨wr.heap.size + 1, 0, none⟩ 1 1 [.string (str t.name), .int .u32 (t.coef * n % 4294967296)] rfl rfl (cells_new2 _ _ _ _) (by simp [Value.oneCell']) (by unfold maxLen; omega) (by omega) (by simp; omega) ?_; intro v2 w3 hown3 hgrow3 _; obtain ⟨a2, c2, rfl⟩ := own_slice hown3; obtain ⟨_, p0, p1, pf0, pf1⟩ := (((ho.out.alloc _).alloc _).grown hgrow3 (fun e => by have := (hownH.out.lt _ e).1; omega))))
        all_goals first | omega | skip
        go_roundw
        case rel => exact ⟨i + 1, .slice a2 (L + 1) c2, by go_num, Hid.intro (hnext.out.2 hz _ _ _ w3 _ hown3 hgrow3 rfl)⟩
        case measure => simp [intOf]; omega
    · obtain ⟨oh, o0, o1, of0, of1⟩ := hS.out.out
      obtain ⟨rh, r0, r1, rf0, rf1⟩ := hS.out.res
      have rhH := Hid.intro rh
      clear rh oh
      go_wp2
      all_goals first | omega | skip
      have hin : i = ts.length := by rw [← hnH.out]; omega
      obtain ⟨s1, s2⟩ := two_set rhH.out rfl (.slice a1 L c1) (.int .u32 (k * n % 4294967296))
      have hb2 : Below w.heap.size w ((wr.setCell ⟨w.heap.size + 1, 0, none⟩ (.slice a1 L c1)).setCell ⟨w.heap.size + 1, 1, none⟩ (.int .u32 (k * n % 4294967296))) := hS.out.bel.grown s2 (by omega) (fun j hj => by cases hj; omega)
      generalize ((wr.setCell ⟨w.heap.size + 1, 0, none⟩ (.slice a1 L c1)).setCell ⟨w.heap.size + 1, 1, none⟩ (.int .u32 (k * n % 4294967296))) = w3 at s1 s2 hb2 ⊢
      obtain ⟨_, z0, z1, _, _⟩ := s1
      refine bodyPost_ret (by simp [results, Try.results46, go_sem, z0, z1]; try rfl) rfl ?_
      refine ⟨hb2, _, rfl, ?_⟩
      have hown := own_weaken (own_low hS.out.own s2 (by omega)) (B := w.heap.size) (by omega)
      rw [hin, List.take_length] at hown
      exact hown
end Go.Proofs.Ytebbbefknfldoaa
/- The library's slices.SortFunc and slices.Equal at terms, slices.Contains at texts: the shelf's layings at this program's numbers. -/
namespace Go.Proofs
open Go.Shelf
def Try.laysSort_ren : Go.Shelf.Ren := ⟨fun | 6 => 77 | 15 => 49 | 14 => 82 | 28 => 66 | 29 => 67 | 20 => 84 | 21 => 85 | 22 => 86 | 23 => 87 | 24 => 88 | 25 => 89 | 26 => 90 | 27 => 91 | 46 => 93 | 47 => 72 | 48 => 73 | 49 => 94 | 50 => 95 | 57 => 96 | n => n, fun | 22 => 26 | 24 => 49 | 25 => 127 | 3 => 3 | 39 => 82 | 0 => 0 | 53 => 27 | 55 => 114 | 4 => 4 | 46 => 106 | 45 => 105 | 50 => 86 | 5 => 5 | 9 => 9 | 66 => 119 | 70 => 123 | 76 => 129 | 77 => 130 | n => n, fun | n => n⟩
theorem Try.laysSort : Go.Proofs.SlLaysF0.n6 Try.prog Try.laysSort_ren := {
  mixed := by kernel_rfl
  f6 := ⟨Try.f77.name, by decide, Try.func77.trans (congrArg some (by kernel_rfl))⟩
  f14 := ⟨Try.f82.name, by decide, Try.func82.trans (congrArg some (by kernel_rfl))⟩
  f15 := Try.func49.trans (congrArg some (by kernel_rfl))
  f20 := ⟨Try.f84.name, by decide, Try.func84.trans (congrArg some (by kernel_rfl))⟩
  f21 := ⟨Try.f85.name, by decide, Try.func85.trans (congrArg some (by kernel_rfl))⟩
  f22 := ⟨Try.f86.name, by decide, Try.func86.trans (congrArg some (by kernel_rfl))⟩
  f23 := ⟨Try.f87.name, by decide, Try.func87.trans (congrArg some (by kernel_rfl))⟩
  f24 := ⟨Try.f88.name, by decide, Try.func88.trans (congrArg some (by kernel_rfl))⟩
  f25 := ⟨Try.f89.name, by decide, Try.func89.trans (congrArg some (by kernel_rfl))⟩
  f26 := ⟨Try.f90.name, by decide, Try.func90.trans (congrArg some (by kernel_rfl))⟩
  f27 := ⟨Try.f91.name, by decide, Try.func91.trans (congrArg some (by kernel_rfl))⟩
  f28 := Try.func66.trans (congrArg some (by kernel_rfl))
  f29 := Try.func67.trans (congrArg some (by kernel_rfl))
  f46 := ⟨Try.f93.name, by decide, Try.func93.trans (congrArg some (by kernel_rfl))⟩
  f47 := Try.func72.trans (congrArg some (by kernel_rfl))
  f48 := Try.func73.trans (congrArg some (by kernel_rfl))
  f49 := ⟨Try.f94.name, by decide, Try.func94.trans (congrArg some (by kernel_rfl))⟩
  f50 := ⟨Try.f95.name, by decide, Try.func95.trans (congrArg some (by kernel_rfl))⟩
  f57 := ⟨Try.f96.name, by decide, Try.func96.trans (congrArg some (by kernel_rfl))⟩
  t0 := Try.underlying0
  a0 := Try.isAgg0
  z0 := Try.sizeOf0
  v0 := Try.zeroValue0
  t3 := Try.underlying3
  a3 := Try.isAgg3
  z3 := Try.sizeOf3
  v3 := Try.zeroValue3
  t4 := Try.underlying4
  a4 := Try.isAgg4
  z4 := Try.sizeOf4
  v4 := Try.zeroValue4
  t5 := Try.underlying5
  a5 := Try.isAgg5
  z5 := Try.sizeOf5
  v5 := Try.zeroValue5
  t9 := Try.underlying9
  a9 := Try.isAgg9
  z9 := Try.sizeOf9
  v9 := Try.zeroValue9
  t22 := Try.underlying26
  a22 := Try.isAgg26
  z22 := Try.sizeOf26
  v22 := Try.zeroValue26
  t25 := Try.underlying127
  a25 := Try.isAgg127
  z25 := Try.sizeOf127
  v25 := Try.zeroValue127
  t39 := Try.underlying82
  a39 := Try.isAgg82
  z39 := Try.sizeOf82
  v39 := Try.zeroValue82
  t45 := Try.underlying105
  a45 := Try.isAgg105
  z45 := Try.sizeOf105
  v45 := Try.zeroValue105
  t46 := Try.underlying106
  a46 := Try.isAgg106
  z46 := Try.sizeOf106
  v46 := Try.zeroValue106
  t50 := Try.underlying86
  a50 := Try.isAgg86
  z50 := Try.sizeOf86
  v50 := Try.zeroValue86
  t53 := Try.underlying27
  a53 := Try.isAgg27
  z53 := Try.sizeOf27
  v53 := Try.zeroValue27
  t55 := Try.underlying114
  a55 := Try.isAgg114
  z55 := Try.sizeOf114
  v55 := Try.zeroValue114
  t66 := Try.underlying119
  a66 := Try.isAgg119
  z66 := Try.sizeOf119
  v66 := Try.zeroValue119
  t70 := Try.underlying123
  a70 := Try.isAgg123
  z70 := Try.sizeOf123
  v70 := Try.zeroValue123
  t76 := Try.underlying129
  a76 := Try.isAgg129
  z76 := Try.sizeOf129
  v76 := Try.zeroValue129
  t77 := Try.underlying130
  a77 := Try.isAgg130
  z77 := Try.sizeOf130
  v77 := Try.zeroValue130 }
end Go.Proofs
namespace Go.Proofs.Ytebbbefknfldoaa
open Go.ChangeShapes Go.WideShapes Go.ChangeAt Go.RowKit Go.Sort
set_option linter.unusedVariables false
set_option maxRecDepth 100000
theorem compareString_any (a b : ByteArray) (w : World) :
    Calls Try.prog 83 #[.string a, .string b] w fun e w' => e = .returned (.int .i64 (Lib.compareBytes a.data.toList b.data.toList)) ∧ w' = w := by
  go_enter Try.func83, Try.ntmps83
  go_wp2
  rw [run_callFunc_extern Try.func92 (by kernel_rfl) (by kernel_rfl) (by kernel_rfl) (e := Extern.BytealgCompare.compare) (by kernel_rfl), Lib.run_compareString]
  simp only [Result.andThen]
  rw [Oper.upon_value]
  go_wp2
  go_ret
  exact ⟨rfl, rfl⟩
theorem compare_any (a b : ByteArray) (w : World) :
    Calls Try.prog 79 #[.string a, .string b] w fun e w' => e = .returned (.int .i64 (Lib.compareBytes a.data.toList b.data.toList)) ∧ w' = w := by
  go_enter Try.func79, Try.ntmps79
  go_wp2_with (go_at_call 83; refine (compareString_any _ _ _).mono ?_; rintro e w' ⟨rfl, rfl⟩)
  go_ret
  exact ⟨rfl, rfl⟩
instance : Inhabited Tm := ⟨⟨[], 0⟩⟩
def cmpT (x y : Tm) : Int := Lib.compareBytes x.name y.name
theorem closure_any (x y : Tm) (W : World) : Calls Try.prog 78 #[.agg x.cells.toArray, .agg y.cells.toArray] W fun e w' => e = .returned (.int .i64 (cmpT x y)) ∧ ∃ q os', w' = grow (W.drewN q) os' := by
  have hcon := fun W' => compare_any (str x.name) (str y.name) W'
  have hx : ∀ l : List UInt8, (str l).data.toList = l := fun l => rfl
  rw [hx, hx] at hcon
  unfold cmpT
  generalize Lib.compareBytes x.name y.name = r at hcon ⊢
  simp only [Tm.cells]
  go_enter Try.func78, Try.ntmps78
  go_wp2_with (go_at_call 79; refine (hcon _).mono ?_; rintro e w' ⟨rfl, rfl⟩)
  go_ret
  exact ⟨rfl, 0, _, by rw [alloc_eq_grow, alloc_eq_grow, grow_grow]; rfl⟩
theorem cmpLays_any (blk off size : Nat) (w : World) : CmpLays Try.prog 78 #[] Tm.cells 2 cmpT blk off size w :=
  fun _ _ _ _ x y => closure_any x y _
theorem ltT (x y : Tm) : ltOf cmpT x y = nlt x.name y.name := compare_nlt _ _
theorem swoT : SWO (ltOf cmpT) where
  irrefl x := by rw [ltT, nlt_irrefl]
  trans x y z h1 h2 := by rw [ltT] at *; exact nlt_trans h1 h2
  ntrans x y z h1 h2 := by
    rw [ltT] at *
    have := leT_trans z y x (by simp [leT, h2]) (by simp [leT, h1])
    simpa [leT] using this
theorem flat_row (ts : List Tm) : (flatK Tm.cells 2 ts.toArray).toList = rowT ts := by
  apply List.ext_getElem?
  intro j
  by_cases hj : j < ts.length * 2
  · have hq : j / 2 < ts.length := by omega
    have h1 : ts[j / 2]? = some ts[j / 2] := List.getElem?_eq_getElem hq
    have h2 := rowT_get ts (j / 2) (j % 2) _ h1 (by omega)
    rw [show j / 2 * 2 + j % 2 = j by omega] at h2
    rw [h2, Array.getElem?_toList]
    have h3 : (flatK Tm.cells 2 ts.toArray)[j]? = some (flatK Tm.cells 2 ts.toArray)[j]! := by
      rw [getElem!_pos _ j (by simp; omega)]
      exact Array.getElem?_eq_getElem _
    rw [h3, get_flatK _ _ _ _ (by simpa using hj)]
    have h4 : ts.toArray[j / 2]! = ts[j / 2] := by
      rw [getElem!_pos _ _ (by simpa using hq)]
      simp
    rw [h4]
    have h5 : (ts[j / 2].cells).length = 2 := rfl
    rw [getElem!_pos _ _ (by omega), List.getElem?_eq_getElem (by omega)]
  · rw [List.getElem?_eq_none (by simp; omega), List.getElem?_eq_none (by rw [rowT_length]; omega)]
theorem holds_own {w : World} {g n : Nat} {cur : Array Value} {e : TypeId} {ts : List Tm} (hb : w.heap[g]? = some (.cells cur e (0, 0))) (ht : cur.toList.take (ts.length * 2) = rowT ts) : HoldsK Tm.cells 2 w g 0 ts.toArray := by
  intro j hj
  have hj' : j < ts.length * 2 := by simpa using hj
  refine ⟨?_, by simp [World.frozen?, hb]⟩
  have h1 : (cur.toList.take (ts.length * 2))[j]? = (rowT ts)[j]? := by rw [ht]
  rw [List.getElem?_take_of_lt hj'] at h1
  simp only [World.cell?, hb, Nat.zero_add]
  simp only [Option.isSome_none, Bool.false_eq_true, if_false]
  rw [← Array.getElem?_toList, h1, ← flat_row, Array.getElem?_toList, getElem!_pos _ j hj]
  exact Array.getElem?_eq_getElem _
theorem heap_sortedK {w : World} {g n : Nat} {os : Array Obj} {cur : Array Value} {e : TypeId} {fr : Nat × Nat} (d : Array Tm) (hb : w.heap[g]? = some (.cells cur e fr)) :
    (sortWorldK Tm.cells 2 w g 0 n d os).heap[g]? = some (.cells (putCells id 0 (flatK Tm.cells 2 d) cur) e fr) := by
  have hg : g < w.heap.size := (Array.getElem?_eq_some_iff.1 hb).1
  unfold sortWorldK putRowK
  rw [heap_grow_old _ _ (by simpa using hg)]
  simp [putRow, mapBlock, Sort.ahead, Array.getElem?_modify, hb, onCells]
theorem grownBy_sortedK {w : World} {g n : Nat} {os : Array Obj} (d : Array Tm) : w.grownBy (sortWorldK Tm.cells 2 w g 0 n d os) (some g) := by
  unfold sortWorldK putRowK
  refine ⟨rfl, rfl, rfl, by simp, fun k hk hne => ?_⟩
  rw [heap_grow_old _ _ (by simpa using hk)]
  have : g ≠ k := fun e => hne (by rw [e])
  simp [putRow, mapBlock, Sort.ahead, Array.getElem?_modify, this]
theorem take_putCellsK (cur F : Array Value) (h : F.size ≤ cur.size) : (putCells id 0 F cur).toList.take F.size = F.toList := by
  apply List.ext_getElem?
  intro j
  by_cases hj : j < F.size
  · rw [List.getElem?_take_of_lt hj, Array.getElem?_toList, Array.getElem?_toList]
    simp [putCells, hj, show j < cur.size by omega]
  · rw [List.getElem?_take_eq_none (by omega), List.getElem?_eq_none (by simp; omega)]
theorem sort_any (v : Value) (ts : List Tm) (B : Nat) (w : World) (hl : ts.length ≤ 9000000) (hown : w.ownsRow B 49 2 v ts.length (rowT ts)) :
    Calls Try.prog 77 #[v, .func (.func 78) #[] #[]] w fun e w' => e = .returned (.tuple #[]) ∧ ∃ ts', ts.Perm ts' ∧ Sorted ts' ∧ w'.ownsRow B 49 2 v ts.length (rowT ts') ∧ w.grownBy w' v.ownBlock := by
  have hown' := hown
  obtain ⟨hlen, ⟨rfl, h0⟩ | ⟨g, cap, cur, rfl, hbg, hg, hle, hcap, hsz, htk⟩⟩ := hown
  · have hts : ts = [] := List.eq_nil_of_length_eq_zero h0
    subst hts
    refine (AnyF.slices_SortFunc_none Try.laysSort none 0 (.func (.func 78) #[] #[]) w).mono ?_
    rintro e w' ⟨rfl, rfl⟩
    exact ⟨rfl, [], List.Perm.refl _, List.Pairwise.nil, hown', World.grownBy.refl _ _⟩
  · have eg : ∀ args w, (callFunc 78 args).run Try.prog w = .ok (.enter 78 args) w := enters_of Try.func78 (by kernel_rfl) rfl
    have hcon := AnyQ.slices_SortFunc Try.laysSort 2 Try.isAgg49 Try.sizeOf49 Tm.cells (fun _ => rfl) (fun x u hu => by simp [Tm.cells] at hu; rcases hu with rfl | rfl <;> rfl) cmpT swoT 78 #[] g 0 cap ts.toArray w eg (cmpLays_any g 0 _ w) (holds_own (n := 0) hg htk) (Array.getElem?_eq_some_iff.1 hg).1 (by simp; omega)
    change Calls Try.prog 77 _ _ _ at hcon
    simp only [List.size_toArray] at hcon
    refine hcon.mono ?_
    rintro e w' ⟨rfl, d', n, os, hp, hs, rfl⟩
    have hds : d'.size = ts.length := by simpa using hp.1
    have hperm : d'.toList.Perm ts := by
      have := hp.2.2
      simp at this
      rwa [List.take_of_length_le (by simp [hds])] at this
    refine ⟨rfl, d'.toList, hperm.symm, ?_, ?_, ?_⟩
    · refine List.pairwise_iff_getElem.2 fun i j hi hj hij => ?_
      have hi' : i < d'.size := by simpa using hi
      have hj' : j < d'.size := by simpa using hj
      have := hs i j (Nat.zero_le _) hij (by omega)
      rw [ltT, getElem!_pos d' i hi', getElem!_pos d' j hj'] at this
      simpa using this
    · refine ⟨by rw [rowT_length]; simp [hds], .inr ⟨g, cap, _, rfl, hbg, heap_sortedK d' hg, hle, hcap, by simp [putCells, hsz], ?_⟩⟩
      have h1 := take_putCellsK cur (flatK Tm.cells 2 d') (by simp [hds, hsz]; omega)
      have h2 := flat_row d'.toList
      simp only [Array.toArray_toList] at h2
      rw [h2] at h1
      simpa [hds] using h1
    · exact grownBy_sortedK d'
end Go.Proofs.Ytebbbefknfldoaa
