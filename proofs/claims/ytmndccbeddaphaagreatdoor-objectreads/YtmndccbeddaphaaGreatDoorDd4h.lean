/- The document's reader of objects: an item in the making. -/
import Derived.Test.YtmndccbeddaphaaGreatDoorOrd7
import Derived.Test.YtmndccbeddaphaaGreatDoorOrd10
import Derived.Test.YtmndccbeddaphaaGreatDoorZT3
namespace Go.Proofs.YtmndccbeddaphaaGreatDoor
open Go.ChangeShapes Go.WideShapes Go.ChangeAt Go.RowKit Go.Sort
set_option linter.unusedVariables false
set_option linter.unusedSimpArgs false
set_option maxRecDepth 100000
def itD (zs : List Int) (p : Nat) : Option (Int × Int) := if 1 ≤ rdV zs p 1 ∧ rdV zs p 1 ≤ 7 then (itR zs p none).2.2 else firstR (rdB zs p 1 none) ((p : Int), 31)
section
variable {zs : List Int} {p : Nat}
theorem rdV_pos (h : rdV zs p 1 ≠ 0) : rdB zs p 1 none = none := by
  unfold rdV at h
  unfold rdB
  split at h
  · next hq => rw [if_pos hq]
  · contradiction
def d2P (zs : List Int) (P : Nat) : Nat := ndP zs (rdP zs P 1) 1 (rdB zs P 1 none)
def d2B (zs : List Int) (P : Nat) : Option (Int × Int) := ndB zs (rdP zs P 1) 1 (rdB zs P 1 none)
def d2V (zs : List Int) (P : Nat) : Int := ndV zs (rdP zs P 1) 1 (rdB zs P 1 none)
def d3P (zs : List Int) (P : Nat) : Nat := ndP zs (d2P zs P) 1 (d2B zs P)
def d3B (zs : List Int) (P : Nat) : Option (Int × Int) := ndB zs (d2P zs P) 1 (d2B zs P)
def d3V (zs : List Int) (P : Nat) : Int := ndV zs (d2P zs P) 1 (d2B zs P)
def d4P (zs : List Int) (P : Nat) : Nat := ndP zs (d3P zs P) 4 (d3B zs P)
def d4B (zs : List Int) (P : Nat) : Option (Int × Int) := ndB zs (d3P zs P) 4 (d3B zs P)
def d4V (zs : List Int) (P : Nat) : Int := ndV zs (d3P zs P) 4 (d3B zs P)
theorem code_same (P : Nat) : d4B zs P = cdF zs P none ∧ (cdF zs P none = none → d2V zs P = cdA zs P ∧ d3V zs P = cdB zs P ∧ d4V zs P = rdV zs (rdP zs (rdP zs (rdP zs P 1) 1) 1) 4 ∧ d4P zs P = cdQ zs P) := by
  unfold d4B d4V d4P d3B d3P d3V d2P d2B d2V cdF cdA cdB cdQ
  cases h1 : rdB zs P 1 none with
  | some f => simp [ndB, ndP, ndV, rdB_s]
  | none =>
    cases h2 : rdB zs (rdP zs P 1) 1 none with
    | some f => simp [ndB, ndP, ndV, rdB_s, h2]
    | none =>
      cases h3 : rdB zs (rdP zs (rdP zs P 1) 1) 1 none with
      | some f => simp [ndB, ndP, ndV, rdB_s, h2, h3]
      | none => simp [ndB, ndP, ndV, rdB_s, h2, h3]
theorem ndV_wd (hz : O.AreBytes zs) (P wd : Nat) (b : Option (Int × Int)) : 0 ≤ ndV zs P wd b ∧ ndV zs P wd b < 256 ^ wd := by
  have := rdV_wd hz P wd
  unfold ndV
  split
  · exact ⟨Int.le_refl _, by omega⟩
  · exact this
theorem sgn4_is (n : Int) (h : 0 ≤ n ∧ n < 4294967296) : O.sgn n 4 = wrap32 n := by
  unfold O.sgn
  simp
theorem sgn2_is (n : Int) : O.sgn n 2 = wrap64 (IntKind.i16.wrap n) := by
  unfold O.sgn
  simp [wrap32, wrap64, O.i16wrap]
  omega
end
section
variable {w w1 w2 w3 : World} {r : Nat} {a : Option Addr} {c : Nat} {zs : List Int} {p : Nat} {bad : Option (Int × Int)} {q : Nat} {A : Array Value}
structure DI (w : World) (r : Nat) (a : Option Addr) (c : Nat) (zs : List Int) (q : Nat) (A : Array Value) (p : Nat) (bad : Option (Int × Int)) (w2 : World) : Prop where
  rd : RD w2 r a c zs p bad
  row : w2.heap[q]? = some (.cells A 86 (0, 0))
  res : w2.heap[w.heap.size]? = some (.cells itZ 86 (0, 0))
  gr : w.grownBy w2 (some r)
  lt : w.heap.size < q
  lo : r < w.heap.size
theorem DI.new (hR : RD w1 r a c zs p bad) (hg : (w.alloc (.cells itZ 86)).grownBy w1 (some r)) (hlo : r < w.heap.size) (k : Int) : DI w r a c zs w1.heap.size (itA k ⟨#[]⟩ 0 0 0 0 0 none 0 0 0 0) p bad (w1.alloc (.cells (itA k ⟨#[]⟩ 0 0 0 0 0 none 0 0 0 0) 86)) := by
  have hb := below_alloc w1 (.cells (itA k ⟨#[]⟩ 0 0 0 0 0 none 0 0 0 0) 86)
  have h0 := heap_alloc_new w (.cells itZ 86)
  have h1 := (hg.block _ (blk_lt h0) (fun e => by have := Option.some.inj e; omega)).trans h0
  have hs : (w.alloc (.cells itZ 86)).heap.size = w.heap.size + 1 := by simp
  exact ⟨hR.below hb, heap_alloc_new w1 _, keepB h1 _, grown_trans (grown_trans (World.grownBy_alloc w _ (some r)) hg) (World.grownBy_alloc w1 _ (some r)), by have := hg.size; omega, hlo⟩
theorem DI.num (h : DI w r a c zs q A p bad w2) {p' : Nat} {bad' : Option (Int × Int)} (hg : w2.grownBy w3 (some r)) (hR : RD w3 r a c zs p' bad') : DI w r a c zs q A p' bad' w3 := by
  have h1 := h.lo
  have h2 := h.lt
  exact ⟨hR, (hg.block q (blk_lt h.row) (fun e => by have := Option.some.inj e; omega)).trans h.row, (hg.block _ (blk_lt h.res) (fun e => by have := Option.some.inj e; omega)).trans h.res, grown_trans h.gr hg, h2, h1⟩
theorem DI.below (h : DI w r a c zs q A p bad w2) (hb : Below w2.heap.size w2 w3) : DI w r a c zs q A p bad w3 :=
  ⟨h.rd.below hb, (hb.block q (blk_lt h.row)).trans h.row, (hb.block _ (blk_lt h.res)).trans h.res, grown_new h.gr (grown_of_below hb) (fun g e => by cases e), h.lt, h.lo⟩
theorem DI.set (h : DI w r a c zs q A p bad w2) (j : Nat) (y : Value) : DI w r a c zs q (A.setIfInBounds j y) p bad (w2.setCell ⟨q, j, none⟩ y) := by
  have h1 := h.lo
  have h2 := h.lt
  obtain ⟨s1, k1⟩ := row_set h.row j y
  exact ⟨h.rd.keep (fun g e => by have := Option.some.inj e; omega) k1, s1, (k1.block _ (blk_lt h.res) (fun e => by have := Option.some.inj e; omega)).trans h.res, grown_new h.gr k1 (fun g e => by have := Option.some.inj e; omega), h2, h1⟩
theorem DI.end (h : DI w r a c zs q A p bad w2) (v0 v1 v2 v3 v4 v5 v6 v7 v8 v9 : Value) : (w.grownBy (put10 w2 w.heap.size v0 v1 v2 v3 v4 v5 v6 v7 v8 v9) (some r) ∧ RD (put10 w2 w.heap.size v0 v1 v2 v3 v4 v5 v6 v7 v8 v9) r a c zs p bad) ∧ (put10 w2 w.heap.size v0 v1 v2 v3 v4 v5 v6 v7 v8 v9).heap[w.heap.size]? = some (.cells #[v0, v1, v2, v3, v4, v5, v6, v7, v8, v9] 86 (0, 0)) ∧ w2.grownBy (put10 w2 w.heap.size v0 v1 v2 v3 v4 v5 v6 v7 v8 v9) (some w.heap.size) := by
  have h1 := h.lo
  obtain ⟨s, k⟩ := put10_is h.res v0 v1 v2 v3 v4 v5 v6 v7 v8 v9
  exact ⟨⟨grown_new h.gr k (fun g e => by have := Option.some.inj e; omega), h.rd.keep (fun g e => by have := Option.some.inj e; omega) k⟩, s, k⟩
def ItDo (w : World) (r : Nat) (a : Option Addr) (c : Nat) (zs : List Int) (p : Nat) (e : Ending) (w' : World) : Prop :=
  ∃ x v p', e = .returned (.agg (itmCells x v)) ∧ w.grownBy w' (some r) ∧ w'.ownsRow w.heap.size 107 2 v x.e.terms.length (rowT x.e.terms) ∧ RD w' r a c zs p' (itD zs p) ∧ (itD zs p = none → x = (itR zs p none).1 ∧ p' = (itR zs p none).2.1)
end
end Go.Proofs.YtmndccbeddaphaaGreatDoor
