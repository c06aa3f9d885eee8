/- A book of lists of texts: what it holds. -/
import Derived.Test.YtogkchgjpflmjaaGreatDoorSmU
import Derived.ArgAppend
import Derived.Laws.AppendOwnNone
import Derived.Deep.AppendLies
import Derived.Deep.RegionHeld3
import Derived.Deep.LoopGhost
import Derived.Deep.DeepMust
import Derived.Deep.QuietTactic
import Derived.BigQuiet
import Derived.WalkSmall
import Derived.WalkSpells
/- spandrelkeep's CopyLin, CopyItems, CopyUnit. -/
namespace Go.Proofs.YtogkchgjpflmjaaGreatDoor
open Go.ChangeShapes Go.WideShapes Go.ChangeAt Go.RowKit Go.Sort
set_option linter.unusedVariables false
set_option maxRecDepth 100000
theorem cell_lt {w : World} {p : Addr} {v : Value} (h : w.cell? p = some v) : p.block < w.heap.size := by
 apply Decidable.byContradiction
 intro hn
 unfold World.cell? at h
 simp [Array.getElem?_eq_none (show w.heap.size <= p.block by omega)] at h
theorem Src.below {w w' : World} {v : Value} {m : Nat} {xs : List Value} (h : Src w v m xs) (hb : Below w.heap.size w w') : Src w' v m xs := by
 rcases h with h | ⟨a, c, rfl, h⟩
 ·exact .inl h
 ·exact .inr ⟨a, c, rfl, fun j u hj => (hb.cell (cell_lt (h j u hj))).trans (h j u hj)⟩
theorem own_void (w : World) (T : TypeId) (sz : Nat) : (w.alloc (.cells #[] T)).ownsRow w.heap.size T sz (.slice (some ⟨w.heap.size, 0, none⟩) 0 0) 0 [] :=
 ⟨by simp, .inr ⟨w.heap.size, 0, #[], rfl, Nat.le_refl _, heap_alloc_new w _, Nat.le_refl _, by decide, by simp, by simp⟩⟩
theorem info123 : (Tryz.prog.info? 123).map (fun i => (i.zero, i.size, i.bytes)) = some (some (.agg #[.string ⟨#[]⟩, .int .u32 0]), 2, 24) := by kernel_rfl
theorem rowT_len (ts : List Tm) : (rowT ts).length = ts.length * 2 := by
 induction ts with
 | nil => rfl
 | cons t r ih => rw [show rowT (t :: r) = t.cells ++ rowT r from rfl, List.length_append, ih, List.length_cons]; show 2 + _ = _; omega
set_option maxHeartbeats 4000000 in
theorem copyLin_any (a : Option Addr) (n c : Nat) (x : Lin) (hn : n = x.terms.length) (hl : n <= 9000000) (w : World) (hS : Src w (.slice a n c) n (rowT x.terms)) :
  Calls Tryz.prog 63 #[linV (.slice a n c) x.const] w fun e w' => ∃ a' c', e = .returned (linV (.slice a' n c') x.const) /\ w'.ownsRow w.heap.size 123 2 (.slice a' n c') n (rowT x.terms) /\ Below w.heap.size w w' := by
 have hB0 : Below w.heap.size w ((w.alloc (.cells #[.slice a n c, .int .u32 x.const] 89)).alloc (.cells #[.slice none 0 0, .int .u32 0] 89)) := (below_alloc w _).alloc (by simp) _
 have hS0 := Hid.intro (hS.below hB0)
 have hrows := two_rows' w #[.slice a n c, .int .u32 x.const] #[.slice none 0 0, .int .u32 0] 89 89
 have hs0 : ((w.alloc (.cells #[.slice a n c, .int .u32 x.const] 89)).alloc (.cells #[.slice none 0 0, .int .u32 0] 89)).heap.size = w.heap.size + 2 := by simp
 have hrl : Hid ((rowT x.terms).length = n * 2) := by rw [hn]; exact Hid.intro (rowT_len _)
 have hone := Hid.intro (rowT_one x.terms)
 obtain ⟨i0, hi, hz0, hz1, hz2⟩ := info_parts info123
 clear hS hn
 go_enter Tryz.func63, Tryz.ntmps63
 go_wp2
 all_goals first | omega | skip
 obtain ⟨c0, c1⟩ := two_read hrows.1
 have hBH := Hid.intro hB0
 have hr1 := Hid.intro hrows.1
 have hr2 := Hid.intro hrows.2
 clear hrows hB0
 generalize ((w.alloc (.cells #[.slice a n c, .int .u32 x.const] 89)).alloc (.cells #[.slice none 0 0, .int .u32 0] 89)) = W0 at *
 have hown : Hid ((W0.alloc (.cells #[] 123)).drew.ownsRow W0.heap.size 123 2 (.slice (some ⟨w.heap.size + 2, 0, none⟩) 0 0) 0 []) := by
  have := own_void W0 123 2
  rw [hs0] at this
  rw [hs0]
  exact own_keptB this (Below.refl _ _).drew
 have hB1 : Hid (Below W0.heap.size W0 (W0.alloc (.cells #[] 123)).drew) := (below_alloc W0 _).drew
 have n1 : ¬ w.heap.size + 1 = w.heap.size := by omega
 go_region_held3 (fun W => W.cell? ⟨w.heap.size, 0, none⟩ = some (.slice a n c) /\ W.cell? ⟨w.heap.size, 1, none⟩ = some (.int .u32 x.const)) (go_keep)
  ((first | (refine step_app _ rfl (.tmp 3) (.tmp 5) 86 rfl W0.heap.size 123 i0 _ 2 24 Tryz.underlying86 hi hz0 hz1 hz2 rfl (by decide) (.slice (some ⟨w.heap.size + 2, 0, none⟩) 0 0) 0 [] rfl hown.out (.slice a n c) n (rowT x.terms) rfl (hS0.out.below hB1.out) hrl.out hone.out (by unfold maxLen; omega) (by omega) hB1.out.size ?_; intro v' w3 ho hg hw; have hB3 : Hid (Below W0.heap.size W0 w3) := (hB1.out.grown hg hB1.out.size (fun j hj => (hown.out.lt _ hj).1)); obtain ⟨m0, m1⟩ := two_read ((hB3.out.block _ (blk_lt hr1.out)).trans hr1.out); have hr3 := Hid.intro ((hB3.out.block _ (blk_lt hr2.out)).trans hr2.out); have hf := fun j => frozen_of_row w3 (w.heap.size + 1) j _ 89 hr3.out; obtain ⟨m2, m3⟩ := two_read hr3.out; obtain ⟨a3, e3, rfl⟩ := own_slice ho; replace ho := Hid.intro ho; clear hg hw)))
 obtain ⟨r1, r2⟩ := row_set hr3.out 0 (.slice a3 n e3)
 obtain ⟨r3, r4⟩ := row_set r1 1 (.int .u32 x.const)
 have hrow : Hid (((w3.setCell ⟨w.heap.size + 1, 0, none⟩ (.slice a3 n e3)).setCell ⟨w.heap.size + 1, 1, none⟩ (.int .u32 x.const)).heap[w.heap.size + 1]? = some (.cells #[.slice a3 n e3, .int .u32 x.const] 89 (0, 0))) := r3
 have hgr := grown_trans r2 r4
 have hown4 := Hid.intro (own_low (by have := ho.out; rw [Nat.zero_add] at this; exact this) hgr (by omega : w.heap.size + 1 < W0.heap.size))
 have hB4 : Hid (Below w.heap.size w ((w3.setCell ⟨w.heap.size + 1, 0, none⟩ (.slice a3 n e3)).setCell ⟨w.heap.size + 1, 1, none⟩ (.int .u32 x.const))) := (hBH.out.trans (hB3.out.mono hBH.out.size)).grown hgr (Nat.le_trans hBH.out.size hB3.out.size) (fun j hj => by cases hj; omega)
 have hlow : Hid (w.heap.size <= W0.heap.size) := hBH.out.size
 clear r1 r2 r3 r4 hgr ho hB3 hr3 hf m0 m1 m2 m3 c0 c1 hown hB1 hr1 hr2 hS0
 generalize ((w3.setCell ⟨w.heap.size + 1, 0, none⟩ (.slice a3 n e3)).setCell ⟨w.heap.size + 1, 1, none⟩ (.int .u32 x.const)) = w4 at *
 obtain ⟨z0, z1⟩ := two_read hrow.out
 go_wp2
 refine bodyPost_ret (by simp [results, Tryz.results63, go_sem, z0, z1]; try rfl) rfl ?_
 exact ⟨a3, e3, rfl, own_weaken hown4.out hlow.out, hB4.out⟩
theorem own_set {w : World} {lo : Nat} {T : TypeId} {sz : Nat} {g n c : Nat} {xs : List Value} (h : w.ownsRow lo T sz (.slice (some ⟨g, 0, none⟩) n c) n xs) (k : Nat) (y : Value) : (w.setCell ⟨g, k, none⟩ y).ownsRow lo T sz (.slice (some ⟨g, 0, none⟩) n c) n (xs.set k y) /\ w.grownBy (w.setCell ⟨g, k, none⟩ y) (some g) := by
 obtain ⟨hl, h⟩ := h
 rcases h with ⟨hv, _⟩ | ⟨g', cap, cur, hv, hlo, hg, h1, h2, h3, h4⟩
 ·cases hv
 ·injection hv with hv1 _ hv3
  cases hv1
  obtain ⟨r1, r2⟩ := row_set hg k y
  refine ⟨⟨by simpa using hl, .inr ⟨g, cap, _, by rw [hv3], hlo, r1, h1, h2, by simp [h3], ?_⟩⟩, r2⟩
  rw [Array.toList_setIfInBounds, List.take_set, h4]
theorem own_at {w : World} {lo : Nat} {T : TypeId} {sz : Nat} {g n c : Nat} {xs : List Value} (h : w.ownsRow lo T sz (.slice (some ⟨g, 0, none⟩) n c) n xs) : lo <= g /\ g < w.heap.size /\ (∀ k, k < xs.length -> w.cell? ⟨g, k, none⟩ = xs[k]?) /\ ∀ k, w.frozen? ⟨g, k, none⟩ = false := by
 have hh := h
 obtain ⟨hl, h⟩ := h
 rcases h with ⟨hv, _⟩ | ⟨g', cap, cur, hv, hlo, hg, h1, h2, h3, h4⟩
 ·cases hv
 ·injection hv with hv1 _ hv3
  cases hv1
  exact ⟨hlo, (Array.getElem?_eq_some_iff.1 hg).1, fun k hk => hh.cellAt k (by omega), fun k => by simp [World.frozen?, hg]⟩
theorem flat_set {α : Type} (f : α -> List Value) (m : Nat) (hf : ∀ x, (f x).length = m) (p : List α) (i : Nat) (x : α) (hi : i < p.length) : (p.set i x).flatMap f = (p.flatMap f).take (i * m) ++ f x ++ (p.flatMap f).drop (i * m + m) := by
 induction p generalizing i with
 | nil => simp at hi
 | cons y r ih =>
  cases i with
  | zero =>
   simp only [List.set_cons_zero, List.flatMap_cons, Nat.zero_mul, List.take_zero, List.nil_append, Nat.zero_add]
   rw [List.drop_append_of_le_length (by rw [hf]; exact Nat.le_refl _), List.drop_eq_nil_of_le (by rw [hf]; exact Nat.le_refl _), List.nil_append]
  | succ i =>
   simp only [List.set_cons_succ, List.flatMap_cons]
   rw [ih i (by simpa using hi)]
   have e1 : (i + 1) * m = m + i * m := by rw [Nat.succ_mul]; omega
   have e2 : (f y ++ r.flatMap f).take (m + i * m) = f y ++ (r.flatMap f).take (i * m) := by
    rw [<- hf y, List.take_length_add_append]
   have e3 : (f y ++ r.flatMap f).drop (m + i * m + m) = (r.flatMap f).drop (i * m + m) := by
    rw [Nat.add_assoc, <- hf y, List.drop_length_add_append, hf y]
   rw [e1, e2, e3]
   simp
theorem flat_set1 {α : Type} (f : α -> List Value) (m : Nat) (hf : ∀ x, (f x).length = m) (p : List α) (i : Nat) (x x' : α) (j : Nat) (y : Value) (hx : p[i]? = some x) (hj : j < m) (he : f x' = (f x).set j y) : (p.flatMap f).set (i * m + j) y = (p.set i x').flatMap f := by
 induction p generalizing i with
 | nil => simp at hx
 | cons z r ih =>
  cases i with
  | zero =>
   simp at hx
   subst hx
   simp only [List.set_cons_zero, List.flatMap_cons, Nat.zero_mul, Nat.zero_add]
   rw [List.set_append_left _ _ (by rw [hf]; exact hj), he]
  | succ i =>
   simp only [List.set_cons_succ, List.flatMap_cons]
   have e1 : (i + 1) * m + j = m + (i * m + j) := by rw [Nat.succ_mul]; omega
   rw [e1, List.set_append_right _ _ (by rw [hf]; omega), hf, show m + (i * m + j) - m = i * m + j by omega, ih i (by simpa using hx)]
def setRow9 (w : World) (g k : Nat) : List Value -> World
 | [] => w
 | v :: vs => setRow9 (w.setCell ⟨g, k, none⟩ v) g (k + 1) vs
theorem set_take {α : Type} (xs : List α) (k : Nat) (v : α) (vs : List α) (hk : k + (v :: vs).length <= xs.length) : (xs.set k v).take (k + 1) ++ vs ++ (xs.set k v).drop (k + 1 + vs.length) = xs.take k ++ (v :: vs) ++ xs.drop (k + (v :: vs).length) := by
 simp only [List.length_cons] at hk ⊢
 rw [List.take_set, List.drop_set, if_pos (by omega)]
 have e1 : (xs.take (k + 1)).set k v = xs.take k ++ [v] := by
  rw [List.take_add_one, List.set_append_right _ _ (by simp; omega)]
  have : k - (xs.take k).length = 0 := by simp; omega
  rw [this, List.getElem?_eq_getElem (by omega)]
  rfl
 rw [e1, show k + 1 + vs.length = k + (vs.length + 1) by omega]
 simp
theorem own_setRow (vs : List Value) : ∀ {w : World} {lo : Nat} {T : TypeId} {sz : Nat} {g n c : Nat} {xs : List Value} (h : w.ownsRow lo T sz (.slice (some ⟨g, 0, none⟩) n c) n xs) (k : Nat) (hk : k + vs.length <= xs.length), (setRow9 w g k vs).ownsRow lo T sz (.slice (some ⟨g, 0, none⟩) n c) n (xs.take k ++ vs ++ xs.drop (k + vs.length)) /\ w.grownBy (setRow9 w g k vs) (some g) := by
 induction vs with
 | nil =>
  intro w lo T sz g n c xs h k hk
  refine ⟨?_, ⟨rfl, rfl, rfl, Nat.le_refl _, fun _ _ _ => rfl⟩⟩
  simpa [setRow9] using h
 | cons v vs ih =>
  intro w lo T sz g n c xs h k hk
  obtain ⟨h1, h2⟩ := own_set h k v
  obtain ⟨h3, h4⟩ := ih h1 (k + 1) (by simp at hk ⊢; omega)
  rw [set_take xs k v vs hk] at h3
  exact ⟨h3, grown_trans h2 h4⟩
theorem own_putI {w : World} {lo g n c : Nat} {p : List (Itm × Value)} (h : w.ownsRow lo 91 10 (.slice (some ⟨g, 0, none⟩) n c) n (rowI p)) {i : Nat} (hi : i < p.length) (x : Itm) (v : Value) : (setRow9 w g (i * 10) (itmCells x v).toList).ownsRow lo 91 10 (.slice (some ⟨g, 0, none⟩) n c) n (rowI (p.set i (x, v))) /\ w.grownBy (setRow9 w g (i * 10) (itmCells x v).toList) (some g) := by
 obtain ⟨h1, h2⟩ := own_setRow (itmCells x v).toList h (i * 10) (by
  rw [rowI_length]
  show i * 10 + 10 <= _
  omega)
 refine ⟨?_, h2⟩
 have e := flat_set (fun q : Itm × Value => (itmCells q.1 q.2).toList) 10 (fun _ => rfl) p i (x, v) hi
 unfold rowI at h1 ⊢
 rw [e]
 exact h1
def ItSrc (w : World) (a : Option Addr) (l : List Itm) : Prop := l = [] ∨ ∃ g o, a = some ⟨g, o, none⟩ /\ g < w.heap.size /\ ∀ (i : Nat) (x : Itm), l[i]? = some x -> ∃ va vc, ItAt w g (o + i * 10) x va x.e.terms.length vc /\ Src w (.slice va x.e.terms.length vc) x.e.terms.length (rowT x.e.terms)
theorem ItSrc.below {w w' : World} {a : Option Addr} {l : List Itm} (h : ItSrc w a l) (hb : Below w.heap.size w w') : ItSrc w' a l := by
 rcases h with h | ⟨g, o, ha, hg, h⟩
 ·exact .inl h
 ·refine .inr ⟨g, o, ha, Nat.lt_of_lt_of_le hg hb.size, fun i x hi => ?_⟩
  obtain ⟨va, vc, h1, h2⟩ := h i x hi
  exact ⟨va, vc, h1.below hb hg, h2.below hb⟩
structure CpI (w0 : World) (g n : Nat) (l : List Itm) (i : Nat) (wr : World) : Prop where
 bel : Below w0.heap.size w0 wr
 own : ∃ p : List (Itm × Value), p.length = n /\ wr.ownsRow w0.heap.size 91 10 (.slice (some ⟨g, 0, none⟩) n n) n (rowI p) /\ (p.take i).map (·.1) = l.take i /\ ∀ q ∈ p.take i, wr.ownsRow w0.heap.size 123 2 q.2 q.1.e.terms.length (rowT q.1.e.terms)
abbrev zeroI : Array Value := #[.int .i64 0, .string ⟨#[]⟩, .int .i64 0, .int .i64 0, .int .i64 0, .int .i32 0, .int .i64 0, .slice none 0 0, .int .u32 0, .int .i64 0]
theorem made_cellsI (n : Nat) : (madeCells (Value.agg zeroI).cells (n * 10)).toList = rowI (List.replicate n (itmE, .slice none 0 0)) := by
 apply List.ext_getElem?
 intro j
 by_cases hj : j < n * 10
 ·obtain ⟨i, k, hk, rfl⟩ : ∃ i k, k < 10 /\ j = i * 10 + k := ⟨j / 10, j % 10, Nat.mod_lt _ (by omega), by omega⟩
  have hi : i < n := by omega
  have hr : (rowI (List.replicate n (itmE, Value.slice none 0 0)))[i * 10 + k]? = (itmCells itmE (.slice none 0 0)).toList[k]? := flat_at (fun q : Itm × Value => (itmCells q.1 q.2).toList) 10 (fun _ => rfl) _ i k (itmE, .slice none 0 0) (by rw [List.getElem?_replicate_of_lt hi]) hk
  rw [hr]
  have hm : (i * 10 + k) % 10 = k := by omega
  have hg : ∀ (Z : Array Value) (N j : Nat), j < N -> (madeCells Z N).toList[j]? = some (Z[j % Z.size]!) := fun Z N j h => by simp [madeCells, h]
  rw [hg _ _ _ hj]
  have hs : (Value.agg zeroI).cells.size = 10 := rfl
  rw [hs, hm]
  have : k = 0 ∨ k = 1 ∨ k = 2 ∨ k = 3 ∨ k = 4 ∨ k = 5 ∨ k = 6 ∨ k = 7 ∨ k = 8 ∨ k = 9 := by omega
  rcases this with rfl | rfl | rfl | rfl | rfl | rfl | rfl | rfl | rfl | rfl <;> rfl
 ·rw [List.getElem?_eq_none (by simp [madeCells]; omega), List.getElem?_eq_none (by rw [rowI_length]; simp; omega)]
theorem made_items (n : Nat) (hn : n <= 1100000) : ∃ M : Array Value, M.size = n * 10 /\ M.toList = rowI (List.replicate n (itmE, .slice none 0 0)) /\ ∀ W : World, (Instr.makeSlice 22 (.int .i64 (n : Int)) (.int .i64 (n : Int))).run Tryz.prog W = .ok (.slice (some ⟨W.heap.size, 0, none⟩) n n) (W.alloc (.cells M 91)) := by
 obtain ⟨i0, hi, hz0, hz1, hz2⟩ := info_parts info91
 obtain ⟨M, hM⟩ : ∃ M, M = madeCells (Value.agg zeroI).cells (((n : Nat) : Int).toNat * i0.size) := ⟨_, rfl⟩
 have hMs : M.size = n * 10 := by rw [hM, size_madeCells, hz1]; simp
 refine ⟨M, hMs, ?_, fun W => ?_⟩
 ·rw [hM, hz1]
  exact made_cellsI n
 ·have h := run_make (P := Tryz.prog) W 22 91 i0 (.agg zeroI) Tryz.underlying22 hi hz0 .i64 .i64 (n : Int) (n : Int) (by omega) (by omega) (by rw [hz2]; omega) (by omega)
  rw [<- hM] at h
  simpa using h
theorem own_made (w : World) (n : Nat) (hn : n <= 1100000) (M : Array Value) (hs : M.size = n * 10) (p : List (Itm × Value)) (hp : p.length = n) (hl : M.toList = rowI p) : (w.alloc (.cells M 91)).ownsRow w.heap.size 91 10 (.slice (some ⟨w.heap.size, 0, none⟩) n n) n (rowI p) :=
 ⟨by rw [rowI_length, hp], .inr ⟨w.heap.size, n, M, rfl, Nat.le_refl _, heap_alloc_new w _, Nat.le_refl _, by unfold maxLen; omega, hs, by rw [hl, List.take_of_length_le (by rw [rowI_length, hp]; exact Nat.le_refl _)]⟩⟩
theorem own_type9 {w w' : World} {lo : Nat} {T : TypeId} {sz : Nat} {v : Value} {n : Nat} {xs : List Value} (h : w.ownsRow lo T sz v n xs) {G : Nat} {T2 : TypeId} {sz2 n2 c2 lo2 : Nat} {ys : List Value} (hG : w.ownsRow lo2 T2 sz2 (.slice (some ⟨G, 0, none⟩) n2 c2) n2 ys) (hT : T ≠ T2) (hg : w.grownBy w' (some G)) : w'.ownsRow lo T sz v n xs := by
 refine ⟨h.1, ?_⟩
 rcases h.2 with h | ⟨g, cap, cur, hv, hlo, hb, hr⟩
 ·exact .inl h
 ·refine .inr ⟨g, cap, cur, hv, hlo, ?_, hr⟩
  have hne : g ≠ G := by
   rintro rfl
   rcases hG.2 with ⟨hv2, _⟩ | ⟨g2, cap2, cur2, hv2, _, hb2, _⟩
   ·cases hv2
   ·injection hv2 with hv3
    cases hv3
    rw [hb] at hb2
    cases hb2
    exact hT rfl
  rw [hg.block g (Array.getElem?_eq_some_iff.1 hb).1 (fun e => hne (by cases e; rfl))]
  exact hb
theorem CpI.next {w0 : World} {G n0 : Nat} {l : List Itm} {i : Nat} {wr wS w1 : World} (hB : Below w0.heap.size w0 wr) {p : List (Itm × Value)} (hpl : p.length = n0) (hi : i < n0) (hown : wr.ownsRow w0.heap.size 91 10 (.slice (some ⟨G, 0, none⟩) n0 n0) n0 (rowI p)) (hmap : (p.take i).map (·.1) = l.take i) (heach : ∀ q ∈ p.take i, wr.ownsRow w0.heap.size 123 2 q.2 q.1.e.terms.length (rowT q.1.e.terms)) {x : Itm} (hx : l[i]? = some x) {v0 v1 : Value}
  (hS : wS.ownsRow w0.heap.size 91 10 (.slice (some ⟨G, 0, none⟩) n0 n0) n0 (rowI (p.set i (x, v0)))) (hgS : wr.grownBy wS (some G)) (hb1 : Below wS.heap.size wS w1) (ho1 : w1.ownsRow wS.heap.size 123 2 v1 x.e.terms.length (rowT x.e.terms)) :
  CpI w0 G n0 l (i + 1) ((w1.setCell ⟨G, i * 10 + 7, none⟩ v1).setCell ⟨G, i * 10 + 8, none⟩ (.int .u32 x.e.const)) := by
 have hS1 := own_keptB hS hb1
 obtain ⟨s1, s2⟩ := own_set hS1 (i * 10 + 7) v1
 obtain ⟨s3, s4⟩ := own_set s1 (i * 10 + 8) (.int .u32 x.e.const)
 have hgr := grown_trans s2 s4
 obtain ⟨hGlo, hGlt, _, _⟩ := own_at hS
 have hBS : Below w0.heap.size w0 wS := hB.grown hgS hB.size (fun j hj => by cases hj; exact hGlo)
 have hB1 : Below w0.heap.size w0 w1 := hBS.trans (hb1.mono hBS.size)
 have e1 : (rowI (p.set i (x, v0))).set (i * 10 + 7) v1 = rowI ((p.set i (x, v0)).set i (x, v1)) := flat_set1 (fun q : Itm × Value => (itmCells q.1 q.2).toList) 10 (fun _ => rfl) _ i (x, v0) (x, v1) 7 v1 (by rw [List.getElem?_set_self (by omega)]) (by omega) rfl
 have e2 : (rowI (p.set i (x, v1))).set (i * 10 + 8) (.int .u32 x.e.const) = rowI ((p.set i (x, v1)).set i (x, v1)) := flat_set1 (fun q : Itm × Value => (itmCells q.1 q.2).toList) 10 (fun _ => rfl) _ i (x, v1) (x, v1) 8 _ (by rw [List.getElem?_set_self (by omega)]) (by omega) rfl
 rw [e1, List.set_set, e2, List.set_set] at s3
 have htk : (p.set i (x, v1)).take (i + 1) = p.take i ++ [(x, v1)] := by
  rw [List.take_add_one, List.getElem?_set_self (by omega), List.take_set_of_le (Nat.le_refl _)]
  rfl
 refine ⟨hB1.grown hgr hB1.size (fun j hj => by cases hj; exact hGlo), p.set i (x, v1), by simpa using hpl, s3, ?_, fun q hq => ?_⟩
 ·rw [htk, List.map_append, hmap, List.take_add_one, hx]
  rfl
 ·rw [htk] at hq
  rcases List.mem_append.1 hq with hq | hq
  ·exact own_type9 (own_keptB (own_type9 (heach q hq) hown (by decide) hgS) hb1) hS1 (by decide) hgr
  ·rw [List.mem_singleton] at hq
   subst hq
   exact own_weaken (own_low ho1 hgr hGlt) hBS.size
set_option maxHeartbeats 8000000 in
theorem copyItems_any (a : Option Addr) (c : Nat) (l : List Itm) (hl : l.length <= 1100000) (hf : ∀ x ∈ l, x.e.terms.length <= 9000000) (w : World) (hS : ItSrc w a l) :
  Calls Tryz.prog 62 #[.slice a l.length c] w fun e w' => Below w.heap.size w w' /\ ∃ g p, e = .returned (.slice (some ⟨g, 0, none⟩) l.length l.length) /\ ItOwn w.heap.size w' (.slice (some ⟨g, 0, none⟩) l.length l.length) p /\ p.map (·.1) = l := by
 obtain ⟨n0, hn0⟩ : ∃ n0, n0 = l.length := ⟨_, rfl⟩
 rw [<- hn0]
 rw [<- hn0] at hl
 obtain ⟨M, hMs, hMl, hmk⟩ := made_items n0 hl
 have hst : Hid (CpI w w.heap.size n0 l 0 (w.alloc (.cells M 91))) := ⟨below_alloc w _, List.replicate n0 (itmE, .slice none 0 0), by simp, own_made w n0 hl M hMs _ (by simp) hMl, by simp, fun q hq => by simp at hq⟩
 replace hn0 := Hid.intro hn0
 have hSH := Hid.intro hS
 have hfH := Hid.intro hf
 clear hS hf hMl hMs
 go_enter Tryz.func62, Tryz.ntmps62
 go_wp2
 all_goals first | omega | skip
 generalize w.alloc (.cells M 91) = W1 at *
 clear hmk
 obtain ⟨G, hG⟩ : ∃ G, G = w.heap.size := ⟨_, rfl⟩
 rw [<- hG] at hst ⊢
 replace hG := Hid.intro hG
 go_loopw [4] (fun v4 wr => ∃ i : Nat, i <= n0 /\ v4 = .int .i64 (i : Int) /\ Hid (CpI w G n0 l i wr)) (fun v4 wr => n0 - (intOf v4).toNat)
 case atStart => exact ⟨0, by omega, rfl, hst⟩
 case round =>
  clear hst
  obtain ⟨i, hi, rfl, hC⟩ := hrel
  by_cases hlt : i < n0
  ·obtain ⟨x, hx⟩ : ∃ x, l[i]? = some x := ⟨l[i]'(by rw [<- hn0.out]; exact hlt), List.getElem?_eq_getElem _⟩
   rcases hSH.out with h0 | ⟨gl, ol, rfl, hgl, hat⟩
   ·rw [h0] at hx; simp at hx
   obtain ⟨va, vc, hI, hTm⟩ := hat i x hx
   obtain ⟨p, hpl, hown, hmap, heach⟩ := hC.out.own
   have hIr := hI.below hC.out.bel hgl
   obtain ⟨d0, d1, d2, d3, d4, d5, d6, d7, d8, d9⟩ := hIr
   have hgG : gl ≠ G := by have := hG.out; omega
   obtain ⟨hGlo, hGlt, hGc, hGf⟩ := own_at hown
   have hk : ∀ j, j < 10 -> ∃ v, wr.cell? ⟨G, i * 10 + j, none⟩ = some v := fun j hj => by
    rw [hGc _ (by rw [rowI_length]; omega), List.getElem?_eq_getElem (by rw [rowI_length]; omega)]
    exact ⟨_, rfl⟩
   obtain ⟨k0, e0⟩ := hk 0 (by omega)
   obtain ⟨k1, e1⟩ := hk 1 (by omega)
   obtain ⟨k2, e2⟩ := hk 2 (by omega)
   obtain ⟨k3, e3⟩ := hk 3 (by omega)
   obtain ⟨k4, e4⟩ := hk 4 (by omega)
   obtain ⟨k5, e5⟩ := hk 5 (by omega)
   obtain ⟨k6, e6⟩ := hk 6 (by omega)
   obtain ⟨k7, e7⟩ := hk 7 (by omega)
   obtain ⟨k8, e8⟩ := hk 8 (by omega)
   obtain ⟨k9, e9⟩ := hk 9 (by omega)
   rw [Nat.add_zero] at e0
   have hlt2 : (i : Int) < (n0 : Int) := by omega
   have z0 : (0 : Int) <= (i : Int) := by omega
   have hput := Hid.intro (own_putI hown (i := i) (by omega) x (.slice va x.e.terms.length vc))
   clear hk hGc hat
   replace hI := Hid.intro hI
   replace hTm := Hid.intro hTm
   replace hown := Hid.intro hown
   replace hmap := Hid.intro hmap
   replace heach := Hid.intro heach
   replace hx := Hid.intro hx
   generalize hln : x.e.terms.length = ln at *
   go_upto_region 6 with fail
   all_goals first | omega | skip
   show Code.wp _ _ _ _ (setRow9 wr G (i * 10) (itmCells x (.slice va ln vc)).toList)
   generalize setRow9 wr G (i * 10) (itmCells x (.slice va ln vc)).toList = wS at *
   clear d0 d1 d2 d3 d4 d5 d6 d7 d8 d9 e0 e1 e2 e3 e4 e5 e6 e7 e8 e9
   have hBS : Hid (Below w.heap.size w wS) := hC.out.bel.grown hput.out.2 hC.out.bel.size (fun j hj => by cases hj; exact hGlo)
   obtain ⟨d0, d1, d2, d3, d4, d5, d6, d7, d8, d9⟩ := hI.out.below hBS.out hgl
   clear d0 d1 d2 d3 d4 d5 d6 d9
   have h63 := Hid.intro (copyLin_any va ln vc x.e hln.symm (by rw [<- hln]; exact hfH.out x (List.mem_of_getElem? hx.out)) wS (by have := hTm.out.below hBS.out; exact this))
   obtain ⟨_, hGlt2, hGc2, hGf2⟩ := own_at hput.out.1
   have hcel : Hid (∀ W, Below wS.heap.size wS W -> (∃ v, W.cell? ⟨G, i * 10 + 7, none⟩ = some v) /\ (∃ v, W.cell? ⟨G, i * 10 + 8, none⟩ = some v) /\ W.frozen? ⟨G, i * 10 + 7, none⟩ = false /\ W.frozen? ⟨G, i * 10 + 8, none⟩ = false) := fun W hb => by
    obtain ⟨_, _, hc, hf⟩ := own_at (own_keptB hput.out.1 hb)
    have hlen : (rowI (p.set i (x, .slice va ln vc))).length = n0 * 10 := by rw [rowI_length]; simp [hpl]
    exact ⟨⟨_, (hc _ (by omega)).trans (List.getElem?_eq_getElem (by omega))⟩, ⟨_, (hc _ (by omega)).trans (List.getElem?_eq_getElem (by omega))⟩, hf _, hf _⟩
   have hnext : Hid (∀ w1 a' c', Below wS.heap.size wS w1 -> w1.ownsRow wS.heap.size 123 2 (.slice a' ln c') ln (rowT x.e.terms) -> CpI w G n0 l (i + 1) ((w1.setCell ⟨G, i * 10 + 7, none⟩ (.slice a' ln c')).setCell ⟨G, i * 10 + 8, none⟩ (.int .u32 x.e.const))) := fun w1 a' c' hb ho => CpI.next hC.out.bel hpl hlt hown.out hmap.out heach.out hx.out hput.out.1 hput.out.2 hb (by rw [hln]; exact ho)
   clear hGc2 hGf2 hGf hln hput
   go_wp2_with (go_at_call 63; (with_reducible refine (h63.out).mono ?_); rintro e w1 ⟨a', c', rfl, ho1, hb1⟩; obtain ⟨⟨y7, k7⟩, ⟨y8, k8⟩, f7, f8⟩ := hcel.out w1 hb1; have hfin := Hid.intro (hnext.out w1 a' c' hb1 ho1); clear ho1 hb1)
   all_goals first | omega | skip
   go_roundw
   case rel => exact ⟨i + 1, by omega, by go_num, hfin⟩
   case measure => simp [intOf]; omega
  ·have hin : n0 = i := by omega
   have hCe := hC.out
   rw [<- hin] at hCe
   subst hin
   have hlt3 : ¬ ((n0 : Int) < (n0 : Int)) := by omega
   clear hC
   replace hCe := Hid.intro hCe
   go_wp2
   all_goals first | omega | skip
   go_ret
   obtain ⟨p, hpl, hown, hmap, heach⟩ := hCe.out.own
   rw [List.take_of_length_le (by omega)] at hmap heach
   rw [hn0.out, List.take_length] at hmap
   refine ⟨hCe.out.bel, G, rfl, p, ⟨?_, heach⟩, hmap⟩
   rw [hpl]
   exact hown
end Go.Proofs.YtogkchgjpflmjaaGreatDoor
namespace Go.Proofs.YtogkchgjpflmjaaGreatDoor.Bk
open Go.ChangeShapes Go.WideShapes Go.ChangeAt Go.RowKit Go.Sort
set_option linter.unusedVariables false
set_option maxRecDepth 100000
theorem Tryz.info9k : (Tryz.prog.info? 9).map (fun i => (i.zero, i.size, i.bytes)) = some (some (.string ⟨#[]⟩), 1, 16) := by kernel_rfl
theorem enc_one (ts : List (List UInt8)) : ∀ u ∈ ts.map encStr, u.oneCell' = true := by
  intro u hu
  obtain ⟨x, _, rfl⟩ := List.mem_map.1 hu
  rfl
theorem own_got {w : World} {lo n : Nat} {v : Value} {xs : List Value} (h : w.ownsRow lo 9 1 v n xs) : ∃ a c, v = .slice a n c ∧ w.ownsRow lo 9 1 (.slice a n c) n xs := by
  have h' := h
  rcases h.2 with ⟨hv, h0⟩ | ⟨g, cap, cur, hv, r⟩
  · subst h0; exact ⟨none, 0, hv, by rw [← hv]; exact h'⟩
  · exact ⟨_, cap, hv, by rw [← hv]; exact h'⟩
theorem own_mono {w : World} {lo lo' n : Nat} {v : Value} {xs : List Value} (h : w.ownsRow lo 9 1 v n xs) (hl : lo' ≤ lo) : w.ownsRow lo' 9 1 v n xs := by
  refine ⟨h.1, ?_⟩
  rcases h.2 with h | ⟨g, cap, cur, h1, hb, hr⟩
  · exact .inl h
  · exact .inr ⟨g, cap, cur, h1, by omega, hr⟩
theorem own_stIn {w : World} {lo : Nat} {a : Option Addr} {c : Nat} {ts : List (List UInt8)} (h : w.ownsRow lo 9 1 (.slice a ts.length c) ts.length (ts.map encStr)) : StIn w a ts := by
  have h' := h
  rcases h.2 with ⟨_, h0⟩ | ⟨g, cap, cur, hv, hb, hg, r⟩
  · exact .inl (List.eq_nil_of_length_eq_zero h0)
  · cases hv
    refine .inr ⟨g, 0, rfl, (Array.getElem?_eq_some_iff.1 hg).1, fun i s hi => ?_⟩
    have := World.ownsRow.cells h' rfl i (encStr s) (by rw [List.getElem?_map, hi]; rfl)
    rw [Addr.add_lit] at this
    exact this
set_option maxHeartbeats 2000000 in
theorem same_eq (a1 a2 : Option Addr) (c1 c2 : Nat) (xs : List (List UInt8)) (w : World) (h1 : StIn w a1 xs) (h2 : StIn w a2 xs) (hm : xs.length ≤ 1100000) :
    Calls Tryz.prog 10 #[.slice a1 xs.length c1, .slice a2 xs.length c2] w fun e w' => e = .returned (.bool true) ∧ ∃ n, w' = w.drewN n := by
  obtain ⟨n0, hn0⟩ : ∃ n0, n0 = xs.length := ⟨_, rfl⟩
  rw [← hn0] at hm ⊢
  by_cases h0 : n0 = 0
  · subst h0
    go_enter Tryz.func10, Tryz.ntmps10
    go_wp2
    go_loop [5] (fun i => i = .int .i64 0) (fun _ => 0)
    case atStart => rfl
    case round =>
      subst hrel
      go_wp2
      go_ret
      exact ⟨rfl, 0, rfl⟩
  · rcases h1 with rfl | ⟨g1, p1, rfl, _, hc1⟩
    · simp at hn0; omega
    · rcases h2 with rfl | ⟨g2, p2, rfl, _, hc2⟩
      · simp at hn0; omega
      · have hH1 := Hid.intro hc1
        have hH2 := Hid.intro hc2
        have hnH := Hid.intro hn0
        clear hc1 hc2 hn0
        go_enter Tryz.func10, Tryz.ntmps10
        go_wp2
        all_goals first | omega | skip
        go_loopw [5] (fun i wr => ∃ k n : Nat, k ≤ n0 ∧ i = .int .i64 k ∧ wr = w.drewN n) (fun i _ => n0 - (intOf i).toNat)
        case atStart => exact ⟨0, 0, Nat.zero_le _, rfl, rfl⟩
        case round =>
          obtain ⟨k, n, hk, rfl, rfl⟩ := hrel
          by_cases hlt : k < n0
          · obtain ⟨t, ht⟩ : ∃ t, xs[k]? = some t := ⟨xs[k]'(by rw [← hnH.out]; exact hlt), List.getElem?_eq_getElem _⟩
            have q0 := hH1.out k t ht
            have p0 := hH2.out k t ht
            have i1 : (0 : Int) ≤ (k : Int) := by omega
            have i2 : (k : Int) < (n0 : Int) := by omega
            clear ht
            go_wp2
            go_quiet (fail)
            go_wp2
            all_goals first
              | omega
              | skip
            go_roundw
            case rel => exact ⟨k + 1, n + nq, by omega, by go_num, by simp⟩
            case measure => simp [intOf]; omega
          · go_wp2
            all_goals first
              | omega
              | (go_ret; exact ⟨rfl, n, rfl⟩)
def blk (a : Option Addr) : Option Nat := a.map (·.block)
def Outer (w : World) (lo : Nat) (a : Option Addr) (c : Nat) (vs : List Value) : Prop :=
  c ≤ maxLen ∧ ((a = none ∧ c = 0 ∧ vs = []) ∨
    ∃ G off cur, a = some ⟨G, off, none⟩ ∧ lo ≤ G ∧ w.heap[G]? = some (.cells cur 24 (0, 0)) ∧ off + c = cur.size ∧ vs.length ≤ c ∧ (cur.toList.drop off).take vs.length = vs)
theorem Tryz.info24k : (Tryz.prog.info? 24).map (fun i => (i.zero, i.size, i.bytes)) = some (some (.slice none 0 0), 1, 24) := by kernel_rfl
theorem Outer.cell {w : World} {lo : Nat} {a : Option Addr} {c : Nat} {vs : List Value} {G off : Nat} (h : Outer w lo (some ⟨G, off, none⟩) c vs) (i : Nat) (hi : i < vs.length) : w.cell? ⟨G, off + i, none⟩ = vs[i]? := by
  rcases h.2 with ⟨h1, _⟩ | ⟨G', off', cur, h1, _, hh, hs, hn, ht⟩
  · cases h1
  · simp only [Option.some.injEq, Addr.mk.injEq, and_true] at h1
    obtain ⟨rfl, rfl⟩ := h1
    rw [cell_of_row w G (off + i) cur 24 (0, 0) hh]
    conv => rhs; rw [← ht]
    rw [List.getElem?_take_of_lt hi, List.getElem?_drop]
    simp
theorem Outer.some_of {w : World} {lo : Nat} {a : Option Addr} {c : Nat} {vs : List Value} (h : Outer w lo a c vs) (hv : vs ≠ []) : ∃ G off, a = some ⟨G, off, none⟩ := by
  rcases h.2 with ⟨_, _, h⟩ | ⟨G, off, cur, h, _⟩
  · exact absurd h hv
  · exact ⟨G, off, h⟩
theorem Outer.len_le {w : World} {lo : Nat} {a : Option Addr} {c : Nat} {vs : List Value} (h : Outer w lo a c vs) : vs.length ≤ c := by
  rcases h.2 with ⟨_, _, rfl⟩ | ⟨G, off, cur, _, _, _, _, hn, _⟩
  · simp
  · exact hn
theorem Outer.lt {w : World} {lo : Nat} {a : Option Addr} {c : Nat} {vs : List Value} (h : Outer w lo a c vs) {g : Nat} (hg : blk a = some g) : lo ≤ g ∧ g < w.heap.size := by
  rcases h.2 with ⟨rfl, _⟩ | ⟨G, off, cur, rfl, hl, hh, _⟩
  · cases hg
  · simp [blk] at hg
    subst hg
    exact ⟨hl, (Array.getElem?_eq_some_iff.1 hh).1⟩
theorem Outer.kept {w w' : World} {lo : Nat} {a : Option Addr} {c : Nat} {vs : List Value} (h : Outer w lo a c vs) (hk : ∀ g, blk a = some g → w'.heap[g]? = w.heap[g]?) : Outer w' lo a c vs := by
  refine ⟨h.1, ?_⟩
  rcases h.2 with h | ⟨G, off, cur, rfl, hl, hh, hr⟩
  · exact .inl h
  · exact .inr ⟨G, off, cur, rfl, hl, by rw [hk G rfl]; exact hh, hr⟩
theorem Outer.tail {w : World} {lo : Nat} {G off c : Nat} {v : Value} {vs : List Value} (h : Outer w lo (some ⟨G, off, none⟩) c (v :: vs)) : Outer w lo (some ⟨G, off + 1, none⟩) (c - 1) vs := by
  refine ⟨by have := h.1; omega, ?_⟩
  rcases h.2 with ⟨h1, _⟩ | ⟨G', off', cur, h1, hl, hh, hs, hn, ht⟩
  · cases h1
  · simp only [Option.some.injEq, Addr.mk.injEq, and_true] at h1
    obtain ⟨rfl, rfl⟩ := h1
    simp at hn
    refine .inr ⟨G, off + 1, cur, rfl, hl, hh, by omega, by omega, ?_⟩
    have := congrArg List.tail ht
    simp only [List.length_cons, List.tail_cons] at this
    rw [← this, ← List.drop_one, List.drop_take, List.drop_drop]
    simp
theorem outer_run (w : World) (ty : TypeId) (lo : Nat) (a : Option Addr) (c : Nat) (vs : List Value) (v : Value) (N : Nat) (h : Outer w lo a c vs) (hv : w.cell? ⟨N, 0, none⟩ = some v) (h1 : v.oneCell' = true) (hn : vs.length ≤ 4000) (hlo : lo ≤ w.heap.size) :
    ∃ a' c' w', (Builtin.append_ #[60, 60] ty #[.slice a vs.length c, .slice (some ⟨N, 0, none⟩) 1 1]).run Tryz.prog w = .ok (.slice a' (vs.length + 1) c') w' ∧ Outer w' lo a' c' (vs ++ [v]) ∧ w.grownBy w' (blk a) ∧ (∀ g, blk a' = some g → blk a = some g ∨ w.heap.size ≤ g) := by
  obtain ⟨i0, hi, hz0, hz1, hz2⟩ := info_parts Tryz.info24k
  have hnews : ∀ j u, [v][j]? = some u → w.cell? ((⟨N, 0, none⟩ : Addr).add j) = some u := by
    intro j u hj
    match j, hj with
    | 0, hj =>
      simp at hj
      subst hj
      simpa [Addr.add] using hv
  have hone : ∀ u ∈ [v], u.oneCell' = true := by intro u hu; simp at hu; subst hu; exact h1
  have fin : ∀ (v' : Value) (w' : World), w'.ownsRow w.heap.size 24 1 v' (vs.length + 1) (vs ++ [v]) → ∃ a' c', v' = .slice a' (vs.length + 1) c' ∧ Outer w' lo a' c' (vs ++ [v]) ∧ ∀ g, blk a' = some g → blk a = some g ∨ w.heap.size ≤ g := by
    intro v' w' ho
    rcases ho.2 with ⟨_, h0⟩ | ⟨g, cap, cur, rfl, hb, hh, hnc, hcm, hcs, ht⟩
    · omega
    · refine ⟨_, _, rfl, ⟨hcm, .inr ⟨g, 0, cur, rfl, by omega, hh, by omega, by simpa using hnc, ?_⟩⟩, fun g' hg' => .inr (by simp [blk] at hg'; omega)⟩
      simpa using ht
  rcases h.2 with ⟨rfl, rfl, rfl⟩ | ⟨G, off, cur, rfl, hl, hh, hs, hnc, ht⟩
  · obtain ⟨v', w', hrun, r1, r2, _⟩ := run_append_own (P := Tryz.prog) w w.heap.size 60 ty 24 i0 (.slice none 0 0) 1 24 Tryz.underlying60 hi hz0 hz1 hz2 rfl (by decide) (.slice none 0 0) 0 [] (World.ownsRow_nil w _ 24 1) ⟨N, 0, none⟩ 1 1 [v] rfl hnews hone (by simp [maxLen]) (by decide) (Nat.le_refl _)
    obtain ⟨a', c', rfl, ho, hg⟩ := fin v' w' (by simpa using r1)
    exact ⟨a', c', w', hrun, ho, r2, hg⟩
  · by_cases hroom : vs.length + 1 ≤ c
    · have hcs : off + vs.length < cur.size := by omega
      have hcell : (w.cell? ⟨G, off + vs.length, none⟩).isSome = true := by
        rw [cell_of_row w G (off + vs.length) cur 24 (0, 0) hh]
        simp [hcs]
      have hfz : w.frozen? ⟨G, off + vs.length, none⟩ = false := frozen_of_row w G _ cur 24 hh
      have hrun := run_append_room_cells (P := Tryz.prog) w 60 ty 24 i0 Tryz.underlying60 hi G off vs.length c ⟨N, 0, none⟩ 1 1 [v] (by rw [hz1]; rfl) hnews hone hroom
        (fun j hj => by rw [hz1]; simp at hj; subst hj; simpa using hcell) (fun j hj => by rw [hz1]; simp at hj; subst hj; simpa using hfz)
      rw [hz1, Nat.mul_one] at hrun
      refine ⟨_, _, _, hrun, ⟨h.1, .inr ⟨G, off, cur.setIfInBounds (off + vs.length) v, rfl, hl, ?_, by simpa using hs, by simp; omega, ?_⟩⟩, ?_, fun g hg => .inl hg⟩
      · simp only [World.setCells]
        exact heap_setCell_same w G (off + vs.length) cur 24 v hh
      · rw [Array.toList_setIfInBounds]
        rw [List.drop_set, if_neg (by omega), show off + vs.length - off = vs.length by omega]
        simp only [List.length_append, List.length_singleton]
        have hlen : vs.length < (cur.toList.drop off).length := by simp; omega
        have e2 : vs.length + 1 ≤ ((cur.toList.drop off).set vs.length v).length := by simp; omega
        rw [List.take_succ_eq_append_getElem (by simpa using hlen)]
        simp [List.take_set, ht]
        rw [List.set_eq_of_length_le (by simp)] <;> simp [ht]
      · exact ⟨rfl, rfl, rfl, by simp [World.setCells, World.setCell], fun k _ hk => by
          simp only [World.setCells]
          exact heap_setCell_other w ⟨G, off + vs.length, none⟩ k v (fun e => hk (by simp [blk, e]))⟩
    · have holds : ∀ j u, vs[j]? = some u → w.cell? ((⟨G, off, none⟩ : Addr).add j) = some u := by
        intro j u hj
        have hjl : j < vs.length := by
          rcases Nat.lt_or_ge j vs.length with h | h
          · exact h
          · rw [List.getElem?_eq_none h] at hj; cases hj
        rw [Addr.add_lit, Outer.cell (a := none) h j hjl, hj]
      obtain ⟨v', w', hrun, r1, r2⟩ := run_append_arg_grows (P := Tryz.prog) w 60 ty 24 i0 (.slice none 0 0) 1 24 Tryz.underlying60 hi hz0 hz1 hz2 rfl (by decide) ⟨G, off, none⟩ vs.length c vs (by simp) holds ⟨N, 0, none⟩ 1 1 [v] rfl hnews (by omega) (by unfold maxLen; omega) (by omega)
      obtain ⟨a', c', rfl, ho, hg⟩ := fin v' w' r1
      exact ⟨a', c', w', hrun, ho, ⟨r2.os, r2.tape, r2.output, r2.size, fun k hk _ => r2.block k hk (by simp)⟩, hg⟩
theorem wpList_outer {ops : Array Oper} {rest : List Oper} {o : Oper} {a : Act} {Q : Exit → Act → World → Prop} (w : World) (hgd : o.guard = none) (s x : Operand)
    (ho : o.op = .call { callee := .builtin .append, args := #[s, x], argTypes := #[60, 60] }) (lo : Nat) (a1 : Option Addr) (c1 n : Nat) (vs : List Value) (v : Value) (N : Nat)
    (hs : a.eval s = .slice a1 n c1) (hx : a.eval x = .slice (some ⟨N, 0, none⟩) 1 1) (hl : vs.length = n) (h : Outer w lo a1 c1 vs) (hv : w.cell? ⟨N, 0, none⟩ = some v) (h1 : v.oneCell' = true) (hn : n ≤ 4000) (hlo : lo ≤ w.heap.size)
    (hK : ∀ a' c' w', Outer w' lo a' c' (vs ++ [v]) → w.grownBy w' (blk a1) → (∀ g, blk a' = some g → blk a1 = some g ∨ w.heap.size ≤ g) → wpList Tryz.prog ops Q rest (a.put o.dst (.slice a' (n + 1) c')) w') : wpList Tryz.prog ops Q (o :: rest) a w := by
  subst hl
  refine wpList_plain hgd fun K hK' => ?_
  obtain ⟨a', c', w', hrun, r1, r2, r3⟩ := outer_run w o.type lo a1 c1 vs v N h hv h1 hn hlo
  unfold Oper.wp
  simp [execOp, ho, resolve, invoke, builtin, hs, hx, hrun, Result.andThen]
  exact hK' _ _ (hK a' c' w' r1 r2 r3)
theorem step_outer {ops : Array Oper} {o : Oper} {a : Act} {K : Act → World → Prop} {Q : Exit → Act → World → Prop} {E : Prop} (w : World) (hgd : o.guard = none) (s x : Operand)
    (ho : o.op = .call { callee := .builtin .append, args := #[s, x], argTypes := #[60, 60] }) (lo : Nat) (a1 : Option Addr) (c1 n : Nat) (vs : List Value) (v : Value) (N : Nat)
    (hs : a.eval s = .slice a1 n c1) (hx : a.eval x = .slice (some ⟨N, 0, none⟩) 1 1) (hl : vs.length = n) (h : Outer w lo a1 c1 vs) (hv : w.cell? ⟨N, 0, none⟩ = some v) (h1 : v.oneCell' = true) (hn : n ≤ 4000) (hlo : lo ≤ w.heap.size)
    (hK : ∀ a' c' w', Outer w' lo a' c' (vs ++ [v]) → w.grownBy w' (blk a1) → (∀ g, blk a' = some g → blk a1 = some g ∨ w.heap.size ≤ g) → K (a.put o.dst (.slice a' (n + 1) c')) w') :
    if Region.wanted o (yielded ops a.tmps) = true then Oper.wp Tryz.prog o a w K Q else E := by
  subst hl
  have hw : Region.wanted o (yielded ops a.tmps) = true := by simp [Region.wanted, hgd]
  rw [if_pos hw]
  obtain ⟨a', c', w', hrun, r1, r2, r3⟩ := outer_run w o.type lo a1 c1 vs v N h hv h1 hn hlo
  unfold Oper.wp
  simp [execOp, ho, resolve, invoke, builtin, hs, hx, hrun, Result.andThen]
  exact hK a' c' w' r1 r2 r3
def K5 (w w' : World) : Prop := ∀ (k : Nat) (cur : Array Value), w.heap[k]? = some (Obj.cells cur 9 (0, 0)) → w'.heap[k]? = w.heap[k]?
theorem K5.refl (w : World) : K5 w w := fun _ _ _ => rfl
theorem K5.trans {a b c : World} (h : K5 a b) (k : K5 b c) : K5 a c := fun g cur hg => by
  rw [k g cur (by rw [h g cur hg]; exact hg), h g cur hg]
theorem K5.alloc (w : World) (o : Obj) : K5 w (w.alloc o) := fun k cur hk => Below.heap_alloc w o k (Array.getElem?_eq_some_iff.1 hk).1
theorem K5.set {w : World} {B : Nat} {cur : Array Value} {T : TypeId} (hB : w.heap[B]? = some (.cells cur T (0, 0))) (hT : T ≠ 9) (i : Nat) (v : Value) : K5 w (w.setCell ⟨B, i, none⟩ v) := fun k c hk => by
  refine heap_setCell_other w ⟨B, i, none⟩ k v (fun e => ?_)
  have e' : k = B := e
  subst e'
  rw [hB] at hk
  simp at hk
  exact hT hk.2
theorem K5.grown {w w' : World} {lo : Nat} {a : Option Addr} {c : Nat} {vs : List Value} (ho : Outer w lo a c vs) (h : w.grownBy w' (blk a)) : K5 w w' := fun k cur hk => by
  refine h.block k (Array.getElem?_eq_some_iff.1 hk).1 (fun e => ?_)
  rcases ho.2 with ⟨rfl, _⟩ | ⟨G, off, cu, rfl, _, hh, _⟩
  · cases e
  · simp [blk] at e
    subst e
    rw [hh] at hk
    simp at hk
def OwnT (w : World) (lo : Nat) (a : Option Addr) (c : Nat) (ts : List (List UInt8)) : Prop := True ∧ w.ownsRow lo 9 1 (.slice a ts.length c) ts.length (ts.map encStr)
structure Ent where
  a : Option Addr
  cap : Nat
  zs : List (List UInt8)
  wa : Option Addr
  wc : Nat
def Ent.val (e : Ent) : Value := .slice e.a e.zs.length e.cap
def Ent.wal (e : Ent) : Value := .slice e.wa e.zs.length e.wc
theorem OwnT.kept {w w' : World} {lo : Nat} {a : Option Addr} {c : Nat} {ts : List (List UInt8)} (h : OwnT w lo a c ts) (hk : K5 w w') : OwnT w' lo a c ts := by
  refine ⟨h.1, h.2.1, ?_⟩
  rcases h.2.2 with h | ⟨g, cap, cur, h1, hb, hh, hr⟩
  · exact .inl h
  · exact .inr ⟨g, cap, cur, h1, hb, by rw [hk g cur hh]; exact hh, hr⟩
theorem OwnT.lies {w : World} {lo : Nat} {a : Option Addr} {c : Nat} {ts : List (List UInt8)} (h : OwnT w lo a c ts) : StIn w a ts := own_stIn h.2
theorem OwnT.mono {w : World} {lo lo' : Nat} {a : Option Addr} {c : Nat} {ts : List (List UInt8)} (h : OwnT w lo a c ts) (hl : lo' ≤ lo) : OwnT w lo' a c ts := ⟨h.1, own_mono h.2 hl⟩
def Entry (w : World) (B : Nat) (e : Ent) : Prop := OwnT w (B + 1) e.a e.cap e.zs ∧ OwnT w (B + 1) e.wa e.wc e.zs ∧ e.zs.length ≤ 20000
theorem Entry.kept {w w' : World} {B : Nat} {e : Ent} (h : Entry w B e) (hk : K5 w w') : Entry w' B e := ⟨h.1.kept hk, h.2.1.kept hk, h.2.2⟩
structure BR (w : World) (B : Nat) (vs1 vs2 : List Value) (n1 n2 : Nat) (a1 a2 : Option Addr) (c1 c2 : Nat) (held : Int) : Prop where
  blkB : w.heap[B]? = some (.cells #[.slice a1 n1 c1, .slice a2 n2 c2, .int .i64 held, .bool false] 62 (0, 0))
  l1 : vs1.length = n1
  l2 : vs2.length = n2
  o1 : Outer w (B + 1) a1 c1 vs1
  o2 : Outer w (B + 1) a2 c2 vs2
  ne : ∀ g, blk a1 = some g → blk a2 ≠ some g
section
variable {w : World} {B : Nat} {vs1 vs2 : List Value} {n1 n2 : Nat} {a1 a2 : Option Addr} {c1 c2 : Nat} {held : Int}
theorem BR.q0 (h : BR w B vs1 vs2 n1 n2 a1 a2 c1 c2 held) : w.cell? ⟨B, 0, none⟩ = some (.slice a1 n1 c1) := by rw [cell_of_row w B 0 _ 62 (0, 0) h.blkB]; rfl
theorem BR.q1 (h : BR w B vs1 vs2 n1 n2 a1 a2 c1 c2 held) : w.cell? ⟨B, 1, none⟩ = some (.slice a2 n2 c2) := by rw [cell_of_row w B 1 _ 62 (0, 0) h.blkB]; rfl
theorem BR.q2 (h : BR w B vs1 vs2 n1 n2 a1 a2 c1 c2 held) : w.cell? ⟨B, 2, none⟩ = some (.int .i64 held) := by rw [cell_of_row w B 2 _ 62 (0, 0) h.blkB]; rfl
theorem BR.q3 (h : BR w B vs1 vs2 n1 n2 a1 a2 c1 c2 held) : w.cell? ⟨B, 3, none⟩ = some (.bool false) := by rw [cell_of_row w B 3 _ 62 (0, 0) h.blkB]; rfl
theorem BR.fz (h : BR w B vs1 vs2 n1 n2 a1 a2 c1 c2 held) (i : Nat) : w.frozen? ⟨B, i, none⟩ = false := frozen_of_row w B i _ 62 h.blkB
theorem BR.lt (h : BR w B vs1 vs2 n1 n2 a1 a2 c1 c2 held) : B < w.heap.size := (Array.getElem?_eq_some_iff.1 h.blkB).1
theorem BR.kept (h : BR w B vs1 vs2 n1 n2 a1 a2 c1 c2 held) {w' : World} (hk : ∀ k, k < w.heap.size → w'.heap[k]? = w.heap[k]?) : BR w' B vs1 vs2 n1 n2 a1 a2 c1 c2 held :=
  ⟨by rw [hk B h.lt]; exact h.blkB, h.l1, h.l2, h.o1.kept fun g hg => hk g (h.o1.lt hg).2, h.o2.kept fun g hg => hk g (h.o2.lt hg).2, h.ne⟩
theorem BR.alloc (h : BR w B vs1 vs2 n1 n2 a1 a2 c1 c2 held) (o : Obj) : BR (w.alloc o) B vs1 vs2 n1 n2 a1 a2 c1 c2 held := h.kept fun k hk => Below.heap_alloc w o k hk
theorem BR.app1 (h : BR w B vs1 vs2 n1 n2 a1 a2 c1 c2 held) {v : Value} {a' : Option Addr} {c' : Nat} {w' : World} (ho : Outer w' (B + 1) a' c' (vs1 ++ [v])) (hg : w.grownBy w' (blk a1)) (hb : ∀ g, blk a' = some g → blk a1 = some g ∨ w.heap.size ≤ g) :
    BR (w'.setCell ⟨B, 0, none⟩ (.slice a' (n1 + 1) c')) B (vs1 ++ [v]) vs2 (n1 + 1) n2 a' a2 c' c2 held := by
  have hB1 : ∀ g, blk a1 = some g → B < g := fun g hg => (h.o1.lt hg).1
  have hblk : w'.heap[B]? = w.heap[B]? := hg.block B h.lt (fun e => by have := hB1 B e.symm; omega)
  have hB : w'.heap[B]? = some (.cells #[.slice a1 n1 c1, .slice a2 n2 c2, .int .i64 held, .bool false] 62 (0, 0)) := by rw [hblk]; exact h.blkB
  have hoth : ∀ k, k ≠ B → (w'.setCell ⟨B, 0, none⟩ (.slice a' (n1 + 1) c')).heap[k]? = w'.heap[k]? := fun k hk => heap_setCell_other w' ⟨B, 0, none⟩ k _ hk
  refine ⟨?_, by simp [h.l1], h.l2, ho.kept fun g hgg => hoth g (by have := (ho.lt hgg).1; omega), ?_, ?_⟩
  · rw [heap_setCell_same w' B 0 _ 62 _ hB]
    rfl
  · refine h.o2.kept fun g hgg => ?_
    have := h.o2.lt hgg
    rw [hoth g (by omega)]
    exact hg.block g this.2 (fun e => h.ne g e.symm hgg)
  · intro g hgg
    rcases hb g hgg with e | e
    · exact h.ne g e
    · intro h2
      have := (h.o2.lt h2).2
      omega
theorem BR.app2 (h : BR w B vs1 vs2 n1 n2 a1 a2 c1 c2 held) {v : Value} {a' : Option Addr} {c' : Nat} {w' : World} (ho : Outer w' (B + 1) a' c' (vs2 ++ [v])) (hg : w.grownBy w' (blk a2)) (hb : ∀ g, blk a' = some g → blk a2 = some g ∨ w.heap.size ≤ g) :
    BR (w'.setCell ⟨B, 1, none⟩ (.slice a' (n2 + 1) c')) B vs1 (vs2 ++ [v]) n1 (n2 + 1) a1 a' c1 c' held := by
  have hB1 : ∀ g, blk a2 = some g → B < g := fun g hg => (h.o2.lt hg).1
  have hblk : w'.heap[B]? = w.heap[B]? := hg.block B h.lt (fun e => by have := hB1 B e.symm; omega)
  have hB : w'.heap[B]? = some (.cells #[.slice a1 n1 c1, .slice a2 n2 c2, .int .i64 held, .bool false] 62 (0, 0)) := by rw [hblk]; exact h.blkB
  have hoth : ∀ k, k ≠ B → (w'.setCell ⟨B, 1, none⟩ (.slice a' (n2 + 1) c')).heap[k]? = w'.heap[k]? := fun k hk => heap_setCell_other w' ⟨B, 1, none⟩ k _ hk
  refine ⟨?_, h.l1, by simp [h.l2], ?_, ho.kept fun g hgg => hoth g (by have := (ho.lt hgg).1; omega), ?_⟩
  · rw [heap_setCell_same w' B 1 _ 62 _ hB]
    rfl
  · refine h.o1.kept fun g hgg => ?_
    have := h.o1.lt hgg
    rw [hoth g (by omega)]
    exact hg.block g this.2 (fun e => h.ne g hgg e.symm)
  · intro g hgg h2
    rcases hb g h2 with e | e
    · exact h.ne g hgg e
    · have := (h.o1.lt hgg).2
      omega
theorem BR.set2 (h : BR w B vs1 vs2 n1 n2 a1 a2 c1 c2 held) (x : Int) : BR (w.setCell ⟨B, 2, none⟩ (.int .i64 x)) B vs1 vs2 n1 n2 a1 a2 c1 c2 x := by
  have hoth : ∀ k, k ≠ B → (w.setCell ⟨B, 2, none⟩ (.int .i64 x)).heap[k]? = w.heap[k]? := fun k hk => heap_setCell_other w ⟨B, 2, none⟩ k _ hk
  refine ⟨?_, h.l1, h.l2, h.o1.kept fun g hg => hoth g (by have := (h.o1.lt hg).1; omega), h.o2.kept fun g hg => hoth g (by have := (h.o2.lt hg).1; omega), h.ne⟩
  rw [heap_setCell_same w B 2 _ 62 _ h.blkB]
  rfl
theorem BR.set3 (h : BR w B vs1 vs2 n1 n2 a1 a2 c1 c2 held) : BR (w.setCell ⟨B, 3, none⟩ (.bool false)) B vs1 vs2 n1 n2 a1 a2 c1 c2 held := by
  have hoth : ∀ k, k ≠ B → (w.setCell ⟨B, 3, none⟩ (.bool false)).heap[k]? = w.heap[k]? := fun k hk => heap_setCell_other w ⟨B, 3, none⟩ k _ hk
  refine ⟨?_, h.l1, h.l2, h.o1.kept fun g hg => hoth g (by have := (h.o1.lt hg).1; omega), h.o2.kept fun g hg => hoth g (by have := (h.o2.lt hg).1; omega), h.ne⟩
  rw [heap_setCell_same w B 3 _ 62 _ h.blkB]
  rfl
theorem BR.cut1 {v : Value} {n G off : Nat} (h : BR w B (v :: vs1) vs2 (n + 1) n2 (some ⟨G, off, none⟩) a2 c1 c2 held) : BR (w.setCell ⟨B, 0, none⟩ (.slice (some ⟨G, off + 1, none⟩) n (c1 - 1))) B vs1 vs2 n n2 (some ⟨G, off + 1, none⟩) a2 (c1 - 1) c2 held := by
  have hoth : ∀ k, k ≠ B → (w.setCell ⟨B, 0, none⟩ (.slice (some ⟨G, off + 1, none⟩) n (c1 - 1))).heap[k]? = w.heap[k]? := fun k hk => heap_setCell_other w ⟨B, 0, none⟩ k _ hk
  have hl := h.l1
  simp at hl
  refine ⟨?_, hl, h.l2, h.o1.tail.kept fun g hg => hoth g (by have := (h.o1.lt (g := g) hg).1; omega), h.o2.kept fun g hg => hoth g (by have := (h.o2.lt hg).1; omega), fun g hg => h.ne g hg⟩
  rw [heap_setCell_same w B 0 _ 62 _ h.blkB]
  rfl
theorem BR.cut2 {v : Value} {n G off : Nat} (h : BR w B vs1 (v :: vs2) n1 (n + 1) a1 (some ⟨G, off, none⟩) c1 c2 held) : BR (w.setCell ⟨B, 1, none⟩ (.slice (some ⟨G, off + 1, none⟩) n (c2 - 1))) B vs1 vs2 n1 n a1 (some ⟨G, off + 1, none⟩) c1 (c2 - 1) held := by
  have hoth : ∀ k, k ≠ B → (w.setCell ⟨B, 1, none⟩ (.slice (some ⟨G, off + 1, none⟩) n (c2 - 1))).heap[k]? = w.heap[k]? := fun k hk => heap_setCell_other w ⟨B, 1, none⟩ k _ hk
  have hl := h.l2
  simp at hl
  refine ⟨?_, h.l1, hl, h.o1.kept fun g hg => hoth g (by have := (h.o1.lt hg).1; omega), h.o2.tail.kept fun g hg => hoth g (by have := (h.o2.lt (g := g) hg).1; omega), fun g hg => h.ne g hg⟩
  rw [heap_setCell_same w B 1 _ 62 _ h.blkB]
  rfl
end
theorem copy_run (w : World) (ty : TypeId) (lo : Nat) (a : Option Addr) (c : Nat) (ts : List (List UInt8)) (h : OwnT w lo a c ts) (hm : ts.length ≤ 1100000) :
    ∃ wa wc w', (Builtin.append_ #[24, 24] ty #[.slice none 0 0, .slice a ts.length c]).run Tryz.prog w = .ok (.slice wa ts.length wc) w' ∧ OwnT w' w.heap.size wa wc ts ∧ w.grownBy w' none := by
  obtain ⟨i0, hi, hz0, hz1, hz2⟩ := info_parts Tryz.info9k
  have fin : ∀ (v' : Value) (w' : World), w'.ownsRow w.heap.size 9 1 v' (0 + ts.length) ([] ++ ts.map encStr) → ∃ wa wc, v' = .slice wa ts.length wc ∧ OwnT w' w.heap.size wa wc ts := by
    intro v' w' ho
    rw [Nat.zero_add, List.nil_append] at ho
    obtain ⟨wa, wc, rfl, hg⟩ := own_got ho
    exact ⟨wa, wc, rfl, h.1, hg⟩
  rcases h.2.2 with ⟨h1, h0⟩ | ⟨g, cap, cur, h1, hb, hh, hnc, hcm, hcs, ht⟩
  · have hts : ts = [] := List.eq_nil_of_length_eq_zero h0
    subst hts
    simp only [List.length_nil, Value.slice.injEq, true_and] at h1
    obtain ⟨rfl, rfl⟩ := h1
    refine ⟨none, 0, w, ?_, ⟨h.1, World.ownsRow_nil _ _ _ _⟩, ⟨rfl, rfl, rfl, Nat.le_refl _, fun _ _ _ => rfl⟩⟩
    simp [Builtin.append_, run_underlying Tryz.underlying24, sizeOf, typeInfo, hi, Builtin.lenOf, Builtin.firstCells]
  · cases h1
    obtain ⟨v', w', hrun, r1, r2, _⟩ := run_append_own (P := Tryz.prog) w w.heap.size 24 ty 9 i0 (.string ⟨#[]⟩) 1 16 Tryz.underlying24 hi hz0 hz1 hz2 rfl (by decide) (.slice none 0 0) 0 [] (World.ownsRow_nil w _ 9 1) ⟨g, 0, none⟩ ts.length c (ts.map encStr) (by simp)
      (fun j u hj => World.ownsRow.cells h.2 rfl j u hj) (enc_one ts) (by unfold maxLen; omega) (by omega) (Nat.le_refl _)
    obtain ⟨wa, wc, rfl, ho⟩ := fin v' w' r1
    exact ⟨wa, wc, w', hrun, ho, r2⟩
theorem step_copy {ops : Array Oper} {o : Oper} {a : Act} {K : Act → World → Prop} {Q : Exit → Act → World → Prop} {E : Prop} (w : World) (hgd : o.guard = none) (s x : Operand)
    (ho : o.op = .call { callee := .builtin .append, args := #[s, x], argTypes := #[24, 24] }) (lo : Nat) (a1 : Option Addr) (c1 : Nat) (ts : List (List UInt8))
    (hs : a.eval s = .slice none 0 0) (hx : a.eval x = .slice a1 ts.length c1) (h : OwnT w lo a1 c1 ts) (hm : ts.length ≤ 1100000)
    (hK : ∀ wa wc w', OwnT w' w.heap.size wa wc ts → w.grownBy w' none → K (a.put o.dst (.slice wa ts.length wc)) w') :
    if Region.wanted o (yielded ops a.tmps) = true then Oper.wp Tryz.prog o a w K Q else E := by
  have hw : Region.wanted o (yielded ops a.tmps) = true := by simp [Region.wanted, hgd]
  rw [if_pos hw]
  obtain ⟨wa, wc, w', hrun, r1, r2⟩ := copy_run w o.type lo a1 c1 ts h hm
  unfold Oper.wp
  simp [execOp, ho, resolve, invoke, builtin, hs, hx, hrun, Result.andThen]
  exact hK wa wc w' r1 r2
end Go.Proofs.YtogkchgjpflmjaaGreatDoor.Bk
