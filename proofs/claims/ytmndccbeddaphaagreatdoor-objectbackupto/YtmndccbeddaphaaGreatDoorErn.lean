/- api's Errno.Error, unit's Refusal.Error: a text that is not empty. -/
import Derived.Test.YtmndccbeddaphaaGreatDoorIt9
import Derived.Deep.DeepAppendWide
import Derived.Laws.OwnMore
import Derived.Test.YtmndccbeddaphaaGreatDoorConcat
import Derived.Maps.OwnSet
import Derived.Maps.OwnOps
import Derived.Test.YtmndccbeddaphaaGreatDoorFin2
import Derived.Test.YtmndccbeddaphaaGreatDoorTok3
import Derived.Lib.IndexLaws
import Derived.Test.YtmndccbeddaphaaGreatDoorSpec2
import Derived.Test.YtmndccbeddaphaaGreatDoorNum3
import Derived.Test.YtmndccbeddaphaaGreatDoorLinM
import Derived.Deep.QuietTactic
import Derived.BigQuiet
import Derived.WalkSmall
import Derived.WalkSpells
import Derived.RangeFuncOwn
import Derived.OwnWalk
import Derived.Test.YtmndccbeddaphaaGreatDoorSrt
import Derived.Deep.Cut
import Derived.RangeFuncNested
import Derived.RangeFuncBound
import Derived.RangeFuncCalls
import Derived.RangeFuncLeaves
import Derived.Shelf.Abstract
import Derived.Shelf.RegionOpen
import Derived.WalkKit
import Derived.OwnWalkIn
import Derived.TacticsInMore
import Derived.LoopNIn
import Derived.LoopIn
import Derived.Handy
import Derived.RangeFuncFrom
import Derived.Deep.RegionLaw
import Derived.Deep.DeepCutAuto
import Derived.Laws.Cover1
import Derived.Deep.RegionHeld3
import Derived.RangeFuncWrites
import Derived.Shelf.Strconv.Itoa3
import Derived.Laws.IdiomStrings
/- Lists that grow: a list laid behind one that is owned, and the block that it lies in then. -/
namespace Go.Proofs.YtmndccbeddaphaaGreatDoor
open Go.ChangeShapes Go.WideShapes Go.ChangeAt Go.RowKit
set_option linter.unusedVariables false
set_option maxRecDepth 100000

/-- the cells news are what the slice vb reads -/
def Src (w : World) (vb : Value) (m : Nat) (news : List Value) : Prop := (vb = .slice none 0 0 ∧ m = 0 ∧ news = []) ∨ ∃ a c, vb = .slice (some a) m c ∧ ∀ j u, news[j]? = some u → w.cell? (a.add j) = some u

section
variable {P : Program}

theorem app_where (w : World) (base : Nat) (t ty e : TypeId) (i : TypeInfo) (z : Value) (ht : P.underlying t = some (.slice e)) (hi : P.info? e = some i) (hz : i.zero = some z)
    (v : Value) (n : Nat) (xs : List Value) (hown : w.ownsRow base e i.size v n xs)
    (a : Addr) (m c : Nat) (news : List Value) (hl : news.length = m * i.size) (hnews : ∀ j u, news[j]? = some u → w.cell? (a.add j) = some u) (h1 : ∀ u ∈ news, u.oneCell' = true)
    (h63 : n + m ≤ maxLen) (hbytes : ((n + m) + (n + m) / 4 + 192) * i.bytes ≤ 281474976710656) {v' : Value} {w' : World}
    (hr : (Builtin.append_ #[t, t] ty #[v, .slice (some a) m c]).run P w = .ok v' w') : v'.ownBlock = v.ownBlock ∨ v'.ownBlock = some w.heap.size := by
  have hsmall : n + m ≤ 9223372036854775807 := by simp only [maxLen] at h63; omega
  rcases hown.2 with ⟨rfl, rfl⟩ | ⟨g, cap, cur, rfl, hbg, hg, hnc, hcm, hcs, htake⟩
  · by_cases hm : m = 0
    · subst hm
      have h0 : (Builtin.append_ #[t, t] ty #[.slice none 0 0, .slice (some a) 0 c]).run P w = .ok (.slice none 0 0) w := by
        simp [Builtin.append_, run_underlying ht, sizeOf, typeInfo, hi, Builtin.lenOf, Builtin.firstCells, loadCells, loadCellsFrom]
      rw [h0] at hr
      cases hr
      exact .inl rfl
    · rw [run_append_nil (P := P) w t ty e i z ht hi hz a m c news hl hnews (by omega) (by omega) (Nat.le_trans (Nat.mul_le_mul_right _ (by omega)) hbytes)] at hr
      cases hr
      exact .inr rfl
  · by_cases hroom : n + m ≤ cap
    · rw [run_append_room (P := P) w t ty e i ht hi g n cap cur hg a m c news hl hnews h1 hroom (by rw [hl, hcs, ← Nat.add_mul]; exact Nat.mul_le_mul_right _ hroom)] at hr
      cases hr
      exact .inl rfl
    · rw [run_append_grow (P := P) w t ty e i z ht hi hz ⟨g, 0, none⟩ n cap xs hown.1 (hown.cells (g := g) rfl) a m c news hl hnews (by omega) (by omega) (growslice_fits_wide (by omega) hbytes)] at hr
      cases hr
      exact .inr rfl

theorem app_run (w : World) (base : Nat) (t ty e : TypeId) (i : TypeInfo) (z : Value) (size bytes : Nat) (ht : P.underlying t = some (.slice e)) (hi : P.info? e = some i) (hz : i.zero = some z)
    (hsize : i.size = size) (hby : i.bytes = bytes) (hzs : z.cells.size = size) (hsz : 0 < size)
    (v : Value) (n : Nat) (xs : List Value) (hown : w.ownsRow base e size v n xs)
    (vb : Value) (m : Nat) (news : List Value) (hsrc : Src w vb m news) (hl : news.length = m * size) (h1 : ∀ u ∈ news, u.oneCell' = true)
    (h63 : n + m ≤ maxLen) (hbytes : ((n + m) + (n + m) / 4 + 192) * bytes ≤ 281474976710656) (hbase : base ≤ w.heap.size) :
    ∃ v' w', (Builtin.append_ #[t, t] ty #[v, vb]).run P w = .ok v' w' ∧ w'.ownsRow base e size v' (n + m) (xs ++ news) ∧ w.grownBy w' v.ownBlock ∧ (v'.ownBlock = v.ownBlock ∨ v'.ownBlock = some w.heap.size) := by
  rcases hsrc with ⟨rfl, rfl, rfl⟩ | ⟨a, c, rfl, hnews⟩
  · refine ⟨v, w, run_append_owned_none (P := P) (w := w) base t ty e i size ht hi v n xs hown, by simpa using hown, ⟨rfl, rfl, rfl, Nat.le_refl _, fun _ _ _ => rfl⟩, .inl rfl⟩
  · obtain ⟨v', w', hr, h2, h3, _⟩ := run_append_own_wide (P := P) w base t ty e i z size bytes ht hi hz hsize hby hzs hsz v n xs hown a m c news hl hnews h1 h63 hbytes hbase
    subst hsize
    subst hby
    exact ⟨v', w', hr, h2, h3, app_where w base t ty e i z ht hi hz v n xs hown a m c news hl hnews h1 h63 hbytes hr⟩

theorem wpList_app {w : World} {ops : Array Oper} {rest : List Oper} {o : Oper} {a : Act} {Q : Exit → Act → World → Prop} (hgd : o.guard = none) (s x : Operand) (t : TypeId)
    (ho : o.op = .call { callee := .builtin .append, args := #[s, x], argTypes := #[t, t] })
    (base : Nat) (e : TypeId) (i : TypeInfo) (z : Value) (size bytes : Nat) (ht : P.underlying t = some (.slice e)) (hi : P.info? e = some i) (hz : i.zero = some z)
    (hsize : i.size = size) (hby : i.bytes = bytes) (hzs : z.cells.size = size) (hsz : 0 < size)
    (v : Value) (n : Nat) (xs : List Value) (hs : a.eval s = v) (hown : w.ownsRow base e size v n xs)
    (vb : Value) (m : Nat) (news : List Value) (hx : a.eval x = vb) (hsrc : Src w vb m news) (hl : news.length = m * size) (h1 : ∀ u ∈ news, u.oneCell' = true)
    (h63 : n + m ≤ maxLen) (hbytes : ((n + m) + (n + m) / 4 + 192) * bytes ≤ 281474976710656) (hbase : base ≤ w.heap.size)
    (h : ∀ v' w', w'.ownsRow base e size v' (n + m) (xs ++ news) → w.grownBy w' v.ownBlock → (v'.ownBlock = v.ownBlock ∨ v'.ownBlock = some w.heap.size) → wpList P ops Q rest (a.put o.dst v') w') : wpList P ops Q (o :: rest) a w := by
  refine wpList_plain hgd fun K hK => ?_
  obtain ⟨v', w', hrun, h2, h3, h4⟩ := app_run (P := P) w base t o.type e i z size bytes ht hi hz hsize hby hzs hsz v n xs hown vb m news hsrc hl h1 h63 hbytes hbase
  unfold Oper.wp
  simp [execOp, ho, resolve, invoke, builtin, hs, hx, hrun, Result.andThen]
  exact hK _ _ (h v' w' h2 h3 h4)

/-- the same at a step of a region that draws its order -/
theorem step_app {ops : Array Oper} {o : Oper} {a : Act} {K : Act → World → Prop} {Q : Exit → Act → World → Prop} {E : Prop} (w : World) (hgd : o.guard = none) (s x : Operand) (t : TypeId)
    (ho : o.op = .call { callee := .builtin .append, args := #[s, x], argTypes := #[t, t] })
    (base : Nat) (e : TypeId) (i : TypeInfo) (z : Value) (size bytes : Nat) (ht : P.underlying t = some (.slice e)) (hi : P.info? e = some i) (hz : i.zero = some z)
    (hsize : i.size = size) (hby : i.bytes = bytes) (hzs : z.cells.size = size) (hsz : 0 < size)
    (v : Value) (n : Nat) (xs : List Value) (hs : a.eval s = v) (hown : w.ownsRow base e size v n xs)
    (vb : Value) (m : Nat) (news : List Value) (hx : a.eval x = vb) (hsrc : Src w vb m news) (hl : news.length = m * size) (h1 : ∀ u ∈ news, u.oneCell' = true)
    (h63 : n + m ≤ maxLen) (hbytes : ((n + m) + (n + m) / 4 + 192) * bytes ≤ 281474976710656) (hbase : base ≤ w.heap.size)
    (hK : ∀ v' w', w'.ownsRow base e size v' (n + m) (xs ++ news) → w.grownBy w' v.ownBlock → (v'.ownBlock = v.ownBlock ∨ v'.ownBlock = some w.heap.size) → K (a.put o.dst v') w') :
    if Region.wanted o (yielded ops a.tmps) = true then Oper.wp P o a w K Q else E := by
  have hw : Region.wanted o (yielded ops a.tmps) = true := by simp [Region.wanted, hgd]
  rw [if_pos hw]
  obtain ⟨v', w', hrun, h2, h3, h4⟩ := app_run (P := P) w base t o.type e i z size bytes ht hi hz hsize hby hzs hsz v n xs hown vb m news hsrc hl h1 h63 hbytes hbase
  unfold Oper.wp
  simp [execOp, ho, resolve, invoke, builtin, hs, hx, hrun, Result.andThen]
  exact hK v' w' h2 h3 h4

end

theorem own_src {w : World} {lo : Nat} {T : TypeId} {sz : Nat} {v : Value} {n : Nat} {xs : List Value} (h : w.ownsRow lo T sz v n xs) : Src w v n xs := by
  rcases h.2 with ⟨rfl, rfl⟩ | ⟨g, cap, cur, rfl, _⟩
  · exact .inl ⟨rfl, rfl, List.eq_nil_of_length_eq_zero (by simpa using h.1)⟩
  · exact .inr ⟨_, _, rfl, h.cells (g := g) rfl⟩

end Go.Proofs.YtmndccbeddaphaaGreatDoor
/- unit's labelled: the label ahead of a line's items. -/
namespace Go.Proofs.YtmndccbeddaphaaGreatDoor
open Go.ChangeShapes Go.WideShapes Go.ChangeAt Go.RowKit
set_option linter.unusedVariables false
set_option maxRecDepth 100000

theorem info91 : (Tryz.prog.info? 86).map (fun i => (i.zero, i.size, i.bytes)) = some (some (.agg #[.int .i64 0, .string ⟨#[]⟩, .int .i64 0, .int .i64 0, .int .i64 0, .int .i32 0, .int .i64 0, .slice none 0 0, .int .u32 0, .int .i64 0]), 10, 104) := by kernel_rfl

end Go.Proofs.YtmndccbeddaphaaGreatDoor
/- unit's whole: the unit, when all lines are taken. -/
namespace Go.Proofs.YtmndccbeddaphaaGreatDoor
open Go.ChangeShapes Go.WideShapes Go.ChangeAt Go.RowKit Go.Sort
set_option linter.unusedVariables false
set_option maxRecDepth 100000

theorem info9 : (Tryz.prog.info? 9).map (fun i => (i.zero, i.size, i.bytes)) = some (some (.string ⟨#[]⟩), 1, 16) := by kernel_rfl


abbrev unit4 (a b c d : Value) : Array Value := #[a, b, c, d]

theorem four_read {T : TypeId} {w : World} {g : Nat} {v0 v1 v2 v3 : Value} (h : w.heap[g]? = some (.cells #[v0, v1, v2, v3] T (0, 0))) : w.cell? ⟨g, 0, none⟩ = some v0 ∧ w.cell? ⟨g, 1, none⟩ = some v1 ∧ w.cell? ⟨g, 2, none⟩ = some v2 ∧ w.cell? ⟨g, 3, none⟩ = some v3 :=
  ⟨(cell_blockT h 0).trans rfl, (cell_blockT h 1).trans rfl, (cell_blockT h 2).trans rfl, (cell_blockT h 3).trans rfl⟩

end Go.Proofs.YtmndccbeddaphaaGreatDoor
/- item's Read, whatever the reader: its walk behind the three calls. -/
namespace Go.Proofs.YtmndccbeddaphaaGreatDoor
open Go.ChangeShapes Go.WideShapes Go.ChangeAt Go.RowKit
set_option linter.unusedVariables false
set_option maxRecDepth 100000

theorem ItAt.below {w w' : World} {g o : Nat} {x : Itm} {va : Option Addr} {n vc : Nat} (h : ItAt w g o x va n vc) {B : Nat} (hb : Below B w w') (hg : g < B) : ItAt w' g o x va n vc :=
  ⟨(hb.cell (p := ⟨g, _, none⟩) hg).trans h.kind, (hb.cell (p := ⟨g, _, none⟩) hg).trans h.name, (hb.cell (p := ⟨g, _, none⟩) hg).trans h.op, (hb.cell (p := ⟨g, _, none⟩) hg).trans h.a, (hb.cell (p := ⟨g, _, none⟩) hg).trans h.b, (hb.cell (p := ⟨g, _, none⟩) hg).trans h.m, (hb.cell (p := ⟨g, _, none⟩) hg).trans h.form, (hb.cell (p := ⟨g, _, none⟩) hg).trans h.terms, (hb.cell (p := ⟨g, _, none⟩) hg).trans h.const, (hb.cell (p := ⟨g, _, none⟩) hg).trans h.n⟩

end Go.Proofs.YtmndccbeddaphaaGreatDoor
/- A unit that is read: items, equations, names in memory. -/
namespace Go.Proofs.YtmndccbeddaphaaGreatDoor
open Go.ChangeShapes Go.WideShapes Go.ChangeAt Go.RowKit Go.Sort
set_option linter.unusedVariables false
set_option maxRecDepth 100000

/-- items that lie from a on -/
def ItIn (w : World) (a : Option Addr) (l : List Itm) : Prop := l = [] ∨ ∃ g o, a = some ⟨g, o, none⟩ ∧ g < w.heap.size ∧ ∀ (i : Nat) (x : Itm), l[i]? = some x → ∃ va vc, ItAt w g (o + i * 10) x va x.e.terms.length vc ∧ TmLies w va x.e.terms
/-- equations -/
def EqIn (w : World) (a : Option Addr) (l : List (List UInt8 × Lin)) : Prop := l = [] ∨ ∃ g o, a = some ⟨g, o, none⟩ ∧ g < w.heap.size ∧ ∀ (i : Nat) (q : List UInt8 × Lin), l[i]? = some q → ∃ va vc, w.cell? ⟨g, o + i * 3, none⟩ = some (.string (str q.1)) ∧ w.cell? ⟨g, o + i * 3 + 1, none⟩ = some (.slice va q.2.terms.length vc) ∧ w.cell? ⟨g, o + i * 3 + 2, none⟩ = some (.int .u32 q.2.const) ∧ TmLies w va q.2.terms
/-- texts -/
def StIn (w : World) (a : Option Addr) (l : List (List UInt8)) : Prop := l = [] ∨ ∃ g o, a = some ⟨g, o, none⟩ ∧ g < w.heap.size ∧ ∀ (i : Nat) (s : List UInt8), l[i]? = some s → w.cell? ⟨g, o + i, none⟩ = some (.string (str s))

theorem ItIn.below {w w' : World} {a : Option Addr} {l : List Itm} (h : ItIn w a l) (hb : Below w.heap.size w w') : ItIn w' a l := by
  rcases h with h | ⟨g, o, ha, hg, h⟩
  · exact .inl h
  · refine .inr ⟨g, o, ha, Nat.lt_of_lt_of_le hg hb.size, fun i x hi => ?_⟩
    obtain ⟨va, vc, h1, h2⟩ := h i x hi
    exact ⟨va, vc, h1.below hb hg, h2.below hb (Nat.le_refl _)⟩
theorem EqIn.below {w w' : World} {a : Option Addr} {l : List (List UInt8 × Lin)} (h : EqIn w a l) (hb : Below w.heap.size w w') : EqIn w' a l := by
  rcases h with h | ⟨g, o, ha, hg, h⟩
  · exact .inl h
  · refine .inr ⟨g, o, ha, Nat.lt_of_lt_of_le hg hb.size, fun i x hi => ?_⟩
    obtain ⟨va, vc, h1, h2, h3, h4⟩ := h i x hi
    exact ⟨va, vc, (hb.cell (p := ⟨g, _, none⟩) hg).trans h1, (hb.cell (p := ⟨g, _, none⟩) hg).trans h2, (hb.cell (p := ⟨g, _, none⟩) hg).trans h3, h4.below hb (Nat.le_refl _)⟩
theorem StIn.below {w w' : World} {a : Option Addr} {l : List (List UInt8)} (h : StIn w a l) (hb : Below w.heap.size w w') : StIn w' a l := by
  rcases h with h | ⟨g, o, ha, hg, h⟩
  · exact .inl h
  · exact .inr ⟨g, o, ha, Nat.lt_of_lt_of_le hg hb.size, fun i x hi => (hb.cell (p := ⟨g, _, none⟩) hg).trans (h i x hi)⟩

theorem own_stIn {lo : Nat} {w : World} {a : Option Addr} {n c : Nat} {l : List (List UInt8)} (h : w.ownsRow lo 9 1 (.slice a n c) l.length (l.map encStr)) : StIn w a l := by
  rcases h.2 with ⟨hv, h0⟩ | ⟨g, cap, cur, hv, _, hg, _⟩
  · exact .inl (List.length_eq_zero_iff.1 h0)
  · have hn := own_len h
    injection hv with hv1 hv2 hv3
    subst hv1
    refine .inr ⟨g, 0, rfl, (Array.getElem?_eq_some_iff.1 hg).1, fun i s hs => ?_⟩
    have hlt := (List.getElem?_eq_some_iff.1 hs).1
    rw [hn] at h
    rw [Nat.zero_add, h.cellAt i (by omega), List.getElem?_map, hs]
    rfl

/-- what an item may be, so that it can be held -/
structure HeldI (x : Itm) : Prop where
  name : x.name.length ≤ 1100000
  m : -2147483648 ≤ x.m ∧ x.m ≤ 2147483647
  n : -9223372036854775808 ≤ x.n ∧ x.n ≤ 9223372036854775807
  few : x.e.terms.length ≤ 9000000
  names : ∀ t ∈ x.e.terms, t.name.length ≤ 1100000

set_option maxHeartbeats 4000000 in
/-- unit's rightItems -/
theorem rightItems_any (a : Option Addr) (c : Nat) (l : List Itm) (sec : Int) (hsec : sec = 0 ∨ sec = 1) (hl : l.length ≤ 1100000) (hH : ∀ x ∈ l, HeldI x) (w : World) (hT : Tab w) (hI : ItIn w a l) :
    Calls Tryz.prog 59 #[.slice a l.length c, .int .i64 sec] w fun e w' => e = .returned (.bool (l.all fun x => okI x sec)) ∧ Below w.heap.size w w' := by
  obtain ⟨n0, hn0⟩ : ∃ n0, n0 = l.length := ⟨_, rfl⟩
  obtain ⟨bv, hbv⟩ : ∃ bv, bv = l.all fun x => okI x sec := ⟨_, rfl⟩
  rw [← hn0, ← hbv]
  rw [← hn0] at hl
  replace hn0 := Hid.intro hn0
  replace hbv := Hid.intro hbv
  have hIH := Hid.intro hI
  have hTH := Hid.intro hT
  have hHH := Hid.intro hH
  clear hI hT hH
  go_enter Tryz.func59, Tryz.ntmps59
  go_wp2
  all_goals first | omega | skip
  go_loopw [9] (fun v9 wr => ∃ i : Nat, i ≤ n0 ∧ v9 = .int .i64 (i : Int) ∧ Hid ((l.take i).all (fun x => okI x sec) = true) ∧ Hid (Below w.heap.size w wr)) (fun v9 wr => n0 - (intOf v9).toNat)
  case atStart => exact ⟨0, by omega, rfl, (by show _ = _; simp), Below.refl _ _⟩
  case round =>
    obtain ⟨i, hi, rfl, hall, hB⟩ := hrel
    by_cases hlt : i < n0
    · obtain ⟨x, hx⟩ : ∃ x, l[i]? = some x := ⟨l[i]'(by rw [← hn0.out]; exact hlt), List.getElem?_eq_getElem _⟩
      rcases hIH.out.below hB.out with h0 | ⟨g, o, rfl, hg, hat⟩
      · rw [h0] at hx; simp at hx
      obtain ⟨va, vc, hI, hTm⟩ := hat i x hx
      obtain ⟨c0, c1, c2, c3, c4, c5, c6, c7, c8, c9⟩ := hI
      have hh := hHH.out x (List.mem_of_getElem? hx)
      have hlt2 : (i : Int) < (n0 : Int) := by omega
      have hTr := hTH.out.below hB.out hTH.out.size
      have hrt := itemRight_any x.kind (str x.name) (by rw [show (str x.name).size = x.name.length from rfl]; exact hh.name) x.op x.a x.b x.m x.form hh.m va vc x.e.terms x.e.const x.n sec hh.n (wr.alloc (.cells (itmCells x (.slice va x.e.terms.length vc)) 86)) (hTr.alloc _) (hTm.below (below_alloc wr _) (Nat.le_refl _)) hh.few hh.names
      have hok : okB x.kind (str x.name) x.op x.a x.b x.m x.form x.e.terms x.e.const x.n sec = okI x sec := rfl
      rw [hok, show rightN sec (okI x sec) = if okI x sec then 0 else 31 by unfold rightN; rw [if_neg (by omega)]] at hrt
      have hnext := Hid.intro (fun (h : okI x sec = true) => show (l.take (i + 1)).all (fun x => okI x sec) = true by rw [List.take_add_one, hx]; simp [h]; simpa using hall.out)
      have hbad : Hid (okI x sec = false → bv = false) := fun h => by
        rw [hbv.out, Bool.eq_false_iff]
        intro h2
        rw [List.all_eq_true] at h2
        have := h2 x (List.mem_of_getElem? hx)
        rw [h] at this
        cases this
      have hbx := heap_alloc_new wr (.cells (itmCells x (.slice va x.e.terms.length vc)) 86)
      obtain ⟨b0, b1, b2, b3, b4, b5, b6, b7, b8, b9⟩ := rowIt hbx
      have hB1 : Hid (Below w.heap.size w (wr.alloc (.cells (itmCells x (.slice va x.e.terms.length vc)) 86))) := hB.out.alloc hB.out.size _
      clear hok hbx hx hh hTr hTm hat
      generalize okI x sec = ok at hrt hnext hbad
      generalize x.e.terms.length = ln at *
      replace hrt := Hid.intro hrt
      cases ok with
      | true =>
        go_wp2_with (go_at_call 101; (with_reducible refine (hrt.out).mono ?_); rintro e w1 ⟨rfl, hb1⟩)
        all_goals first | omega | skip
        go_roundw
        case rel => exact ⟨i + 1, by omega, by go_num, hnext.out (by simp), hB1.out.trans (hb1.mono hB1.out.size)⟩
        case measure => simp [intOf]; omega
      | false =>
        go_wp2_with (go_at_call 101; (with_reducible refine (hrt.out).mono ?_); rintro e w1 ⟨rfl, hb1⟩)
        all_goals first | omega | skip
        go_ret
        rw [hbad.out (by simp)]
        exact ⟨rfl, hB1.out.trans (hb1.mono hB1.out.size)⟩
    · have hin : i = n0 := by omega
      have hres : Hid (bv = true) := by
        show _ = _
        rw [hbv.out]
        have := hall.out
        rwa [hin, hn0.out, List.take_length] at this
      subst hin
      have hlt3 : ¬ ((i : Int) < (i : Int)) := by omega
      go_wp2
      all_goals first | omega | skip
      go_ret
      rw [hres.out]
      exact ⟨rfl, hB.out⟩

end Go.Proofs.YtmndccbeddaphaaGreatDoor
namespace Go.Proofs.YtmndccbeddaphaaGreatDoor
open Go.ChangeShapes Go.WideShapes Go.ChangeAt Go.RowKit
set_option linter.unusedVariables false
set_option maxRecDepth 100000

theorem info5 : (Tryz.prog.info? 5).map (fun i => (i.zero, i.size, i.bytes)) = some (some (.int .u8 0), 1, 1) := by kernel_rfl

abbrev byV (l : List UInt8) : List Value := l.map fun b => .int .u8 (b.toNat : Int)

/-- bytes that are owned, as a text -/
theorem conv_own {w : World} {lo : Nat} {a : Option Addr} {c : Nat} {l : List UInt8} (h : w.ownsRow lo 5 1 (.slice a l.length c) l.length (byV l)) (hne : l ≠ []) : (convert 22 9 (.slice a l.length c)).run Tryz.prog w = .ok (.string (str l)) w := by
  rcases h.2 with ⟨_, h0⟩ | ⟨g, cap, cur, hv, _⟩
  · exact absurd (List.length_eq_zero_iff.1 h0) hne
  · injection hv with hv1 _ _
    subst hv1
    exact run_convert_bytes_back w 22 9 5 ⟨g, 0, none⟩ c l Tryz.underlying22 Tryz.underlying5 Tryz.underlying9 (fun j hj => h.cells (g := g) rfl j _ (by simp [hj]))

def dg0 (k : Nat) : UInt8 := UInt8.ofNat (48 + k % 10)
def dg1 (k : Nat) : UInt8 := UInt8.ofNat (48 + k / 10)
/-- the digits of a number below 100 -/
def dgs (k : Nat) : List UInt8 := if k < 10 then [dg0 k] else [dg1 k, dg0 k]
abbrev sRefusal : ByteArray := ⟨#[114, 101, 102, 117, 115, 97, 108, 32]⟩

set_option maxHeartbeats 4000000 in
theorem ern_num (k : Nat) (hk : k ≤ 99) (h0 : k ≠ 0) (h1 : k ≠ 1) (h20 : k ≠ 20) (h23 : k ≠ 23) (w : World) : Calls Tryz.prog 84 #[.int .i64 (k : Int)] w fun e w' => e = .returned (.string (sRefusal ++ str (dgs k))) ∧ Below w.heap.size w w' := by
  have e0 : ((k : Int) == 0) = false := by simp; omega
  have e1 : ((k : Int) == 1) = false := by simp; omega
  have e2 : ((k : Int) == 20) = false := by simp; omega
  have e3 : ((k : Int) == 23) = false := by simp; omega
  have hp : ¬ ((k : Int) < 0) := by omega
  obtain ⟨i0, hi, hz0, hz1, hz2⟩ := info_parts info5
  go_enter Tryz.func84, Tryz.ntmps84
  go_wp2
  all_goals first | omega | skip
  clear e0 e1 e2 e3 hp
  go_loopw [3, 4] (fun v3 v4 wr => ∃ (n : Nat) (a : Option Addr) (c : Nat) (l : List UInt8), n ≤ 99 ∧ ((l = [] ∧ n = k) ∨ (l = [dg0 k] ∧ n = k / 10) ∨ (10 ≤ k ∧ l = [dg1 k, dg0 k] ∧ n = 0)) ∧ v3 = .int .i64 (n : Int) ∧ v4 = .slice a l.length c ∧ Hid (wr.ownsRow w.heap.size 5 1 (.slice a l.length c) l.length (byV l)) ∧ Hid (Below w.heap.size w wr)) (fun v3 v4 wr => (intOf v3).toNat)
  case atStart => exact ⟨k, none, 0, [], hk, .inl ⟨rfl, rfl⟩, rfl, rfl, World.ownsRow_nil _ _ _ _, Below.refl _ _⟩
  case round =>
    obtain ⟨n, a, c, l, hn, hcase, rfl, rfl, hO, hB⟩ := hrel
    have hll : l.length ≤ 2 := by rcases hcase with ⟨rfl, _⟩ | ⟨rfl, _⟩ | ⟨_, rfl, _⟩ <;> simp
    by_cases hn0 : n = 0
    · subst hn0
      have hne : l ≠ [] := by
        rcases hcase with ⟨_, h⟩ | ⟨rfl, _⟩ | ⟨_, rfl, _⟩
        · exact absurd h.symm h0
        · simp
        · simp
      have hdg : Hid (l = dgs k) := by
        show _ = _
        unfold dgs
        rcases hcase with ⟨_, h⟩ | ⟨rfl, h⟩ | ⟨h, rfl, _⟩
        · exact absurd h.symm h0
        · rw [if_pos (by omega)]
        · rw [if_neg (by omega)]
      have hcv := conv_own hO.out hne
      have hl0 : ((l.length : Int) == 0) = false := by
        have : l.length ≠ 0 := fun h => hne (List.length_eq_zero_iff.1 h)
        simp; omega
      have hsz : (str l).size = l.length := rfl
      have hadd : ∀ W : World, (Op.stringOp .add ⟨#[114, 101, 102, 117, 115, 97, 108, 32]⟩ (str l)).run Tryz.prog W = .ok (.string (⟨#[114, 101, 102, 117, 115, 97, 108, 32]⟩ ++ str l)) W := fun W => run_string_add_sum W _ _ (by rw [hsz]; show 8 + l.length ≤ _; omega)
      generalize l.length = ln at *
      clear hcase hne
      go_wp2
      all_goals first | omega | skip
      go_ret
      rw [← hdg.out]
      exact ⟨rfl, hB.out⟩
    · have hpos : (0 : Int) < (n : Int) := by omega
      obtain ⟨d, hdd, hd⟩ : ∃ d : UInt8, d = UInt8.ofNat (48 + n % 10) ∧ (d.toNat : Int) = 48 + (n : Int) % 10 := ⟨UInt8.ofNat (48 + n % 10), rfl, by rw [UInt8.toNat_ofNat']; omega⟩
      have hone : Hid ((wr.alloc (.cells #[.int .u8 (48 + (n : Int) % 10)] 5)).ownsRow w.heap.size 5 1 (.slice (some ⟨wr.heap.size, 0, none⟩) 1 1) 1 [.int .u8 (48 + (n : Int) % 10)]) := ⟨rfl, .inr ⟨wr.heap.size, 1, _, rfl, hB.out.size, heap_alloc_new wr _, Nat.le_refl _, by unfold maxLen; omega, rfl, rfl⟩⟩
      have hsrc : Hid (Src (wr.alloc (.cells #[.int .u8 (48 + (n : Int) % 10)] 5)) (.slice a l.length c) l.length (byV l)) := own_src (own_keptB hO.out (below_alloc wr _))
      have hl1 : Hid ((byV l).length = l.length * 1) := by show _ = _; simp
      have hone1 : Hid (∀ u ∈ byV l, u.oneCell' = true) := fun u hu => by
        obtain ⟨x, _, rfl⟩ := List.mem_map.1 hu
        rfl
      have hbase : w.heap.size ≤ (wr.alloc (.cells #[.int .u8 (48 + (n : Int) % 10)] 5)).heap.size := Nat.le_trans hB.out.size (below_alloc wr _).size
      have hB1 : Hid (Below w.heap.size w (wr.alloc (.cells #[.int .u8 (48 + (n : Int) % 10)] 5))) := hB.out.alloc hB.out.size _
      have hnx : Hid ((d :: l = [dg0 k] ∧ n / 10 = k / 10) ∨ (10 ≤ k ∧ d :: l = [dg1 k, dg0 k] ∧ n / 10 = 0)) := by
        show _ ∨ _
        rcases hcase with ⟨rfl, rfl⟩ | ⟨rfl, rfl⟩ | ⟨_, _, h⟩
        · exact .inl ⟨by rw [hdd]; rfl, rfl⟩
        · refine .inr ⟨by omega, ?_, by omega⟩
          rw [hdd]
          congr 1
          unfold dg1
          rw [Nat.mod_eq_of_lt (by omega)]
        · exact absurd h hn0
      obtain ⟨ln, hln⟩ : ∃ ln, l.length = ln := ⟨_, rfl⟩
      rw [hln] at hsrc hl1 hO hll ⊢
      replace hln := Hid.intro hln
      replace hd := Hid.intro hd
      clear hcase hn0 hdd
      go_wp2_with (at_builtin; go_must (refine wpList_app rfl (.tmp 28) (.tmp 29) 22 rfl w.heap.size 5 i0 _ 1 1 Tryz.underlying22 hi hz0 hz1 hz2 rfl (by decide) (.slice (some ⟨wr.heap.size, 0, none⟩) 1 1) 1 _ rfl hone.out (.slice a ln c) ln (byV l) rfl hsrc.out hl1.out hone1.out (by unfold maxLen; omega) (by omega) hbase ?_; intro v' w3 ho hg hw; rw [Nat.add_comm 1 ln] at ho; obtain ⟨a', c', rfl⟩ := own_slice ho; replace ho := Hid.intro ho; replace hg := Hid.intro hg; clear hw))
      all_goals first | omega | skip
      go_roundw
      case rel =>
        refine ⟨n / 10, a', c', d :: l, by omega, ?_, by simp, by rw [List.length_cons, hln.out], ?_, ?_⟩
        · exact .inr hnx.out
        · have h2 := ho.out
          show World.ownsRow _ _ _ _ _ _ _
          rw [List.length_cons, hln.out]
          have e : byV (d :: l) = [.int .u8 (48 + (n : Int) % 10)] ++ byV l := by simp [hd.out]
          rw [e]
          exact h2
        · exact hB1.out.grown hg.out hB1.out.size (fun j hj => by cases hj; exact hB.out.size)
      case measure =>
        simp [intOf]
        omega

/-- Errno.Error's text -/
def ernS (k : Nat) : ByteArray :=
  if k = 0 then ⟨#[110, 111, 32, 101, 114, 114, 111, 114]⟩
  else if k = 1 then ⟨#[97, 110, 32, 97, 114, 103, 117, 109, 101, 110, 116, 32, 116, 104, 97, 116, 32, 109, 97, 121, 32, 110, 111, 116, 32, 98, 101]⟩
  else if k = 20 then ⟨#[97, 32, 108, 105, 110, 101, 32, 116, 104, 97, 116, 32, 99, 97, 110, 39, 116, 32, 98, 101, 32, 114, 101, 97, 100]⟩
  else if k = 23 then ⟨#[97, 32, 110, 97, 109, 101, 32, 116, 104, 97, 116, 32, 110, 111, 98, 111, 100, 121, 32, 103, 105, 118, 101, 115]⟩
  else sRefusal ++ str (dgs k)

theorem ernS_size (k : Nat) : (ernS k).size ≤ 100 := by
  unfold ernS
  split
  · decide
  · split
    · decide
    · split
      · decide
      · split
        · decide
        · rw [ByteArray.size_append]
          unfold dgs
          split
          · show 8 + 1 ≤ 100; omega
          · show 8 + 2 ≤ 100; omega

/-- Errno.Error -/
theorem ern_any (k : Nat) (hk : k ≤ 99) (w : World) : Calls Tryz.prog 84 #[.int .i64 (k : Int)] w fun e w' => e = .returned (.string (ernS k)) ∧ Below w.heap.size w w' := by
  unfold ernS
  by_cases h0 : k = 0
  · subst h0
    go_enter Tryz.func84, Tryz.ntmps84
    go_wp2
    go_ret
    exact ⟨rfl, Below.refl _ _⟩
  rw [if_neg h0]
  by_cases h1 : k = 1
  · subst h1
    go_enter Tryz.func84, Tryz.ntmps84
    go_wp2
    go_ret
    exact ⟨rfl, Below.refl _ _⟩
  rw [if_neg h1]
  by_cases h20 : k = 20
  · subst h20
    go_enter Tryz.func84, Tryz.ntmps84
    go_wp2
    go_ret
    exact ⟨rfl, Below.refl _ _⟩
  rw [if_neg h20]
  by_cases h23 : k = 23
  · subst h23
    go_enter Tryz.func84, Tryz.ntmps84
    go_wp2
    go_ret
    exact ⟨rfl, Below.refl _ _⟩
  rw [if_neg h23]
  exact ern_num k hk h0 h1 h20 h23 w

end Go.Proofs.YtmndccbeddaphaaGreatDoor
