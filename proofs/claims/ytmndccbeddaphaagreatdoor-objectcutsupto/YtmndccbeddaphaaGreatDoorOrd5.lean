/- object's reader: a list of terms, a Lin. -/
import Derived.Test.YtmndccbeddaphaaGreatDoorSmU
import Derived.Test.YtmndccbeddaphaaGreatDoorSetM
/- spandrelkeep's CopyLin, CopyItems, CopyUnit. -/
namespace Go.Proofs.YtmndccbeddaphaaGreatDoor
open Go.ChangeShapes Go.WideShapes Go.ChangeAt Go.RowKit Go.Sort
set_option linter.unusedVariables false
set_option maxRecDepth 100000

theorem cell_lt {w : World} {p : Addr} {v : Value} (h : w.cell? p = some v) : p.block < w.heap.size := by
  apply Decidable.byContradiction
  intro hn
  unfold World.cell? at h
  simp [Array.getElem?_eq_none (show w.heap.size ≤ p.block by omega)] at h
theorem Src.below {w w' : World} {v : Value} {m : Nat} {xs : List Value} (h : Src w v m xs) (hb : Below w.heap.size w w') : Src w' v m xs := by
  rcases h with h | ⟨a, c, rfl, h⟩
  · exact .inl h
  · exact .inr ⟨a, c, rfl, fun j u hj => (hb.cell (cell_lt (h j u hj))).trans (h j u hj)⟩
/-- a list just made that holds nothing -/
theorem own_void (w : World) (T : TypeId) (sz : Nat) : (w.alloc (.cells #[] T)).ownsRow w.heap.size T sz (.slice (some ⟨w.heap.size, 0, none⟩) 0 0) 0 [] :=
  ⟨by simp, .inr ⟨w.heap.size, 0, #[], rfl, Nat.le_refl _, heap_alloc_new w _, Nat.le_refl _, by decide, by simp, by simp⟩⟩
theorem info123 : (Tryz.prog.info? 107).map (fun i => (i.zero, i.size, i.bytes)) = some (some (.agg #[.string ⟨#[]⟩, .int .u32 0]), 2, 24) := by kernel_rfl
theorem rowT_len (ts : List Tm) : (rowT ts).length = ts.length * 2 := by
  induction ts with
  | nil => rfl
  | cons t r ih => rw [show rowT (t :: r) = t.cells ++ rowT r from rfl, List.length_append, ih, List.length_cons]; show 2 + _ = _; omega

set_option maxHeartbeats 4000000 in
theorem copyLin_any (a : Option Addr) (n c : Nat) (x : Lin) (hn : n = x.terms.length) (hl : n ≤ 9000000) (w : World) (hS : Src w (.slice a n c) n (rowT x.terms)) :
    Calls Tryz.prog 51 #[linV (.slice a n c) x.const] w fun e w' => ∃ a' c', e = .returned (linV (.slice a' n c') x.const) ∧ w'.ownsRow w.heap.size 107 2 (.slice a' n c') n (rowT x.terms) ∧ Below w.heap.size w w' := by
  have hB0 : Below w.heap.size w ((w.alloc (.cells #[.slice a n c, .int .u32 x.const] 84)).alloc (.cells #[.slice none 0 0, .int .u32 0] 84)) := (below_alloc w _).alloc (by simp) _
  have hS0 := Hid.intro (hS.below hB0)
  have hrows := two_rows' w #[.slice a n c, .int .u32 x.const] #[.slice none 0 0, .int .u32 0] 84 84
  have hs0 : ((w.alloc (.cells #[.slice a n c, .int .u32 x.const] 84)).alloc (.cells #[.slice none 0 0, .int .u32 0] 84)).heap.size = w.heap.size + 2 := by simp
  have hrl : Hid ((rowT x.terms).length = n * 2) := by rw [hn]; exact Hid.intro (rowT_len _)
  have hone := Hid.intro (rowT_one x.terms)
  obtain ⟨i0, hi, hz0, hz1, hz2⟩ := info_parts info123
  clear hS hn
  go_enter Tryz.func51, Tryz.ntmps51
  go_wp2
  all_goals first | omega | skip
  obtain ⟨c0, c1⟩ := two_read hrows.1
  have hBH := Hid.intro hB0
  have hr1 := Hid.intro hrows.1
  have hr2 := Hid.intro hrows.2
  clear hrows hB0
  generalize ((w.alloc (.cells #[.slice a n c, .int .u32 x.const] 84)).alloc (.cells #[.slice none 0 0, .int .u32 0] 84)) = W0 at *
  have hown : Hid ((W0.alloc (.cells #[] 107)).drew.ownsRow W0.heap.size 107 2 (.slice (some ⟨w.heap.size + 2, 0, none⟩) 0 0) 0 []) := by
    have := own_void W0 107 2
    rw [hs0] at this
    rw [hs0]
    exact own_keptB this (Below.refl _ _).drew
  have hB1 : Hid (Below W0.heap.size W0 (W0.alloc (.cells #[] 107)).drew) := (below_alloc W0 _).drew
  have n1 : ¬ w.heap.size + 1 = w.heap.size := by omega
  go_region_held3 (fun W => W.cell? ⟨w.heap.size, 0, none⟩ = some (.slice a n c) ∧ W.cell? ⟨w.heap.size, 1, none⟩ = some (.int .u32 x.const)) (go_keep)
    ((first | (refine step_app _ rfl (.tmp 3) (.tmp 5) 82 rfl W0.heap.size 107 i0 _ 2 24 Tryz.underlying82 hi hz0 hz1 hz2 rfl (by decide) (.slice (some ⟨w.heap.size + 2, 0, none⟩) 0 0) 0 [] rfl hown.out (.slice a n c) n (rowT x.terms) rfl (hS0.out.below hB1.out) hrl.out hone.out (by unfold maxLen; omega) (by omega) hB1.out.size ?_; intro v' w3 ho hg hw; have hB3 : Hid (Below W0.heap.size W0 w3) := (hB1.out.grown hg hB1.out.size (fun j hj => (hown.out.lt _ hj).1)); obtain ⟨m0, m1⟩ := two_read ((hB3.out.block _ (blk_lt hr1.out)).trans hr1.out); have hr3 := Hid.intro ((hB3.out.block _ (blk_lt hr2.out)).trans hr2.out); have hf := fun j => frozen_of_row w3 (w.heap.size + 1) j _ 84 hr3.out; obtain ⟨m2, m3⟩ := two_read hr3.out; obtain ⟨a3, e3, rfl⟩ := own_slice ho; replace ho := Hid.intro ho; clear hg hw)))
  obtain ⟨r1, r2⟩ := row_set hr3.out 0 (.slice a3 n e3)
  obtain ⟨r3, r4⟩ := row_set r1 1 (.int .u32 x.const)
  have hrow : Hid (((w3.setCell ⟨w.heap.size + 1, 0, none⟩ (.slice a3 n e3)).setCell ⟨w.heap.size + 1, 1, none⟩ (.int .u32 x.const)).heap[w.heap.size + 1]? = some (.cells #[.slice a3 n e3, .int .u32 x.const] 84 (0, 0))) := r3
  have hgr := grown_trans r2 r4
  have hown4 := Hid.intro (own_low (by have := ho.out; rw [Nat.zero_add] at this; exact this) hgr (by omega : w.heap.size + 1 < W0.heap.size))
  have hB4 : Hid (Below w.heap.size w ((w3.setCell ⟨w.heap.size + 1, 0, none⟩ (.slice a3 n e3)).setCell ⟨w.heap.size + 1, 1, none⟩ (.int .u32 x.const))) := (hBH.out.trans (hB3.out.mono hBH.out.size)).grown hgr (Nat.le_trans hBH.out.size hB3.out.size) (fun j hj => by cases hj; omega)
  have hlow : Hid (w.heap.size ≤ W0.heap.size) := hBH.out.size
  clear r1 r2 r3 r4 hgr ho hB3 hr3 hf m0 m1 m2 m3 c0 c1 hown hB1 hr1 hr2 hS0
  generalize ((w3.setCell ⟨w.heap.size + 1, 0, none⟩ (.slice a3 n e3)).setCell ⟨w.heap.size + 1, 1, none⟩ (.int .u32 x.const)) = w4 at *
  obtain ⟨z0, z1⟩ := two_read hrow.out
  go_wp2
  refine bodyPost_ret (by simp [results, Tryz.results51, go_sem, z0, z1]; try rfl) rfl ?_
  exact ⟨a3, e3, rfl, own_weaken hown4.out hlow.out, hB4.out⟩

/-- one cell of a row that is owned is written -/
theorem own_set {w : World} {lo : Nat} {T : TypeId} {sz : Nat} {g n c : Nat} {xs : List Value} (h : w.ownsRow lo T sz (.slice (some ⟨g, 0, none⟩) n c) n xs) (k : Nat) (y : Value) : (w.setCell ⟨g, k, none⟩ y).ownsRow lo T sz (.slice (some ⟨g, 0, none⟩) n c) n (xs.set k y) ∧ w.grownBy (w.setCell ⟨g, k, none⟩ y) (some g) := by
  obtain ⟨hl, h⟩ := h
  rcases h with ⟨hv, _⟩ | ⟨g', cap, cur, hv, hlo, hg, h1, h2, h3, h4⟩
  · cases hv
  · injection hv with hv1 _ hv3
    cases hv1
    obtain ⟨r1, r2⟩ := row_set hg k y
    refine ⟨⟨by simpa using hl, .inr ⟨g, cap, _, by rw [hv3], hlo, r1, h1, h2, by simp [h3], ?_⟩⟩, r2⟩
    rw [Array.toList_setIfInBounds, List.take_set, h4]
/-- a cell of a row that is owned -/
theorem own_at {w : World} {lo : Nat} {T : TypeId} {sz : Nat} {g n c : Nat} {xs : List Value} (h : w.ownsRow lo T sz (.slice (some ⟨g, 0, none⟩) n c) n xs) : lo ≤ g ∧ g < w.heap.size ∧ (∀ k, k < xs.length → w.cell? ⟨g, k, none⟩ = xs[k]?) ∧ ∀ k, w.frozen? ⟨g, k, none⟩ = false := by
  have hh := h
  obtain ⟨hl, h⟩ := h
  rcases h with ⟨hv, _⟩ | ⟨g', cap, cur, hv, hlo, hg, h1, h2, h3, h4⟩
  · cases hv
  · injection hv with hv1 _ hv3
    cases hv1
    exact ⟨hlo, (Array.getElem?_eq_some_iff.1 hg).1, fun k hk => hh.cellAt k (by omega), fun k => by simp [World.frozen?, hg]⟩

/-- a row of things of m cells: the cells of the one at i are written -/
theorem flat_set {α : Type} (f : α → List Value) (m : Nat) (hf : ∀ x, (f x).length = m) (p : List α) (i : Nat) (x : α) (hi : i < p.length) : (p.set i x).flatMap f = (p.flatMap f).take (i * m) ++ f x ++ (p.flatMap f).drop (i * m + m) := by
  induction p generalizing i with
  | nil => simp at hi
  | cons y r ih =>
    cases i with
    | zero =>
      simp only [List.set_cons_zero, List.flatMap_cons, Nat.zero_mul, List.take_zero, List.nil_append, Nat.zero_add]
      rw [List.drop_append_of_le_length (by rw [hf]; exact Nat.le_refl _), List.drop_eq_nil_of_le (by rw [hf]; exact Nat.le_refl _), List.nil_append]
    | succ i =>
      simp only [List.set_cons_succ, List.flatMap_cons]
      rw [ih i (by simpa using hi)]
      have e1 : (i + 1) * m = m + i * m := by rw [Nat.succ_mul]; omega
      have e2 : (f y ++ r.flatMap f).take (m + i * m) = f y ++ (r.flatMap f).take (i * m) := by
        rw [← hf y, List.take_length_add_append]
      have e3 : (f y ++ r.flatMap f).drop (m + i * m + m) = (r.flatMap f).drop (i * m + m) := by
        rw [Nat.add_assoc, ← hf y, List.drop_length_add_append, hf y]
      rw [e1, e2, e3]
      simp

theorem flat_set1 {α : Type} (f : α → List Value) (m : Nat) (hf : ∀ x, (f x).length = m) (p : List α) (i : Nat) (x x' : α) (j : Nat) (y : Value) (hx : p[i]? = some x) (hj : j < m) (he : f x' = (f x).set j y) : (p.flatMap f).set (i * m + j) y = (p.set i x').flatMap f := by
  induction p generalizing i with
  | nil => simp at hx
  | cons z r ih =>
    cases i with
    | zero =>
      simp at hx
      subst hx
      simp only [List.set_cons_zero, List.flatMap_cons, Nat.zero_mul, Nat.zero_add]
      rw [List.set_append_left _ _ (by rw [hf]; exact hj), he]
    | succ i =>
      simp only [List.set_cons_succ, List.flatMap_cons]
      have e1 : (i + 1) * m + j = m + (i * m + j) := by rw [Nat.succ_mul]; omega
      rw [e1, List.set_append_right _ _ (by rw [hf]; omega), hf, show m + (i * m + j) - m = i * m + j by omega, ih i (by simpa using hx)]

/-- some cells one behind the other are written -/
def setRow9 (w : World) (g k : Nat) : List Value → World
  | [] => w
  | v :: vs => setRow9 (w.setCell ⟨g, k, none⟩ v) g (k + 1) vs
theorem set_take {α : Type} (xs : List α) (k : Nat) (v : α) (vs : List α) (hk : k + (v :: vs).length ≤ xs.length) : (xs.set k v).take (k + 1) ++ vs ++ (xs.set k v).drop (k + 1 + vs.length) = xs.take k ++ (v :: vs) ++ xs.drop (k + (v :: vs).length) := by
  simp only [List.length_cons] at hk ⊢
  rw [List.take_set, List.drop_set, if_pos (by omega)]
  have e1 : (xs.take (k + 1)).set k v = xs.take k ++ [v] := by
    rw [List.take_add_one, List.set_append_right _ _ (by simp; omega)]
    have : k - (xs.take k).length = 0 := by simp; omega
    rw [this, List.getElem?_eq_getElem (by omega)]
    rfl
  rw [e1, show k + 1 + vs.length = k + (vs.length + 1) by omega]
  simp
theorem own_setRow (vs : List Value) : ∀ {w : World} {lo : Nat} {T : TypeId} {sz : Nat} {g n c : Nat} {xs : List Value} (h : w.ownsRow lo T sz (.slice (some ⟨g, 0, none⟩) n c) n xs) (k : Nat) (hk : k + vs.length ≤ xs.length), (setRow9 w g k vs).ownsRow lo T sz (.slice (some ⟨g, 0, none⟩) n c) n (xs.take k ++ vs ++ xs.drop (k + vs.length)) ∧ w.grownBy (setRow9 w g k vs) (some g) := by
  induction vs with
  | nil =>
    intro w lo T sz g n c xs h k hk
    refine ⟨?_, ⟨rfl, rfl, rfl, Nat.le_refl _, fun _ _ _ => rfl⟩⟩
    simpa [setRow9] using h
  | cons v vs ih =>
    intro w lo T sz g n c xs h k hk
    obtain ⟨h1, h2⟩ := own_set h k v
    obtain ⟨h3, h4⟩ := ih h1 (k + 1) (by simp at hk ⊢; omega)
    rw [set_take xs k v vs hk] at h3
    exact ⟨h3, grown_trans h2 h4⟩

/-- the item at i is written -/
theorem own_putI {w : World} {lo g n c : Nat} {p : List (Itm × Value)} (h : w.ownsRow lo 86 10 (.slice (some ⟨g, 0, none⟩) n c) n (rowI p)) {i : Nat} (hi : i < p.length) (x : Itm) (v : Value) : (setRow9 w g (i * 10) (itmCells x v).toList).ownsRow lo 86 10 (.slice (some ⟨g, 0, none⟩) n c) n (rowI (p.set i (x, v))) ∧ w.grownBy (setRow9 w g (i * 10) (itmCells x v).toList) (some g) := by
  obtain ⟨h1, h2⟩ := own_setRow (itmCells x v).toList h (i * 10) (by
    rw [rowI_length]
    show i * 10 + 10 ≤ _
    omega)
  refine ⟨?_, h2⟩
  have e := flat_set (fun q : Itm × Value => (itmCells q.1 q.2).toList) 10 (fun _ => rfl) p i (x, v) hi
  unfold rowI at h1 ⊢
  rw [e]
  exact h1

/-- items that can be copied -/
def ItSrc (w : World) (a : Option Addr) (l : List Itm) : Prop := l = [] ∨ ∃ g o, a = some ⟨g, o, none⟩ ∧ g < w.heap.size ∧ ∀ (i : Nat) (x : Itm), l[i]? = some x → ∃ va vc, ItAt w g (o + i * 10) x va x.e.terms.length vc ∧ Src w (.slice va x.e.terms.length vc) x.e.terms.length (rowT x.e.terms)
/-- the items that are made, i of them copied -/
structure CpI (w0 : World) (g n : Nat) (l : List Itm) (i : Nat) (wr : World) : Prop where
  bel : Below w0.heap.size w0 wr
  own : ∃ p : List (Itm × Value), p.length = n ∧ wr.ownsRow w0.heap.size 86 10 (.slice (some ⟨g, 0, none⟩) n n) n (rowI p) ∧ (p.take i).map (·.1) = l.take i ∧ ∀ q ∈ p.take i, wr.ownsRow w0.heap.size 107 2 q.2 q.1.e.terms.length (rowT q.1.e.terms)

abbrev zeroI : Array Value := #[.int .i64 0, .string ⟨#[]⟩, .int .i64 0, .int .i64 0, .int .i64 0, .int .i32 0, .int .i64 0, .slice none 0 0, .int .u32 0, .int .i64 0]
theorem made_cellsI (n : Nat) : (madeCells (Value.agg zeroI).cells (n * 10)).toList = rowI (List.replicate n (itmE, .slice none 0 0)) := by
  apply List.ext_getElem?
  intro j
  by_cases hj : j < n * 10
  · obtain ⟨i, k, hk, rfl⟩ : ∃ i k, k < 10 ∧ j = i * 10 + k := ⟨j / 10, j % 10, Nat.mod_lt _ (by omega), by omega⟩
    have hi : i < n := by omega
    have hr : (rowI (List.replicate n (itmE, Value.slice none 0 0)))[i * 10 + k]? = (itmCells itmE (.slice none 0 0)).toList[k]? := flat_at (fun q : Itm × Value => (itmCells q.1 q.2).toList) 10 (fun _ => rfl) _ i k (itmE, .slice none 0 0) (by rw [List.getElem?_replicate_of_lt hi]) hk
    rw [hr]
    have hm : (i * 10 + k) % 10 = k := by omega
    have hg : ∀ (Z : Array Value) (N j : Nat), j < N → (madeCells Z N).toList[j]? = some (Z[j % Z.size]!) := fun Z N j h => by simp [madeCells, h]
    rw [hg _ _ _ hj]
    have hs : (Value.agg zeroI).cells.size = 10 := rfl
    rw [hs, hm]
    have : k = 0 ∨ k = 1 ∨ k = 2 ∨ k = 3 ∨ k = 4 ∨ k = 5 ∨ k = 6 ∨ k = 7 ∨ k = 8 ∨ k = 9 := by omega
    rcases this with rfl | rfl | rfl | rfl | rfl | rfl | rfl | rfl | rfl | rfl <;> rfl
  · rw [List.getElem?_eq_none (by simp [madeCells]; omega), List.getElem?_eq_none (by rw [rowI_length]; simp; omega)]

theorem made_items (n : Nat) (hn : n ≤ 1100000) : ∃ M : Array Value, M.size = n * 10 ∧ M.toList = rowI (List.replicate n (itmE, .slice none 0 0)) ∧ ∀ W : World, (Instr.makeSlice 26 (.int .i64 (n : Int)) (.int .i64 (n : Int))).run Tryz.prog W = .ok (.slice (some ⟨W.heap.size, 0, none⟩) n n) (W.alloc (.cells M 86)) := by
  obtain ⟨i0, hi, hz0, hz1, hz2⟩ := info_parts info91
  obtain ⟨M, hM⟩ : ∃ M, M = madeCells (Value.agg zeroI).cells (((n : Nat) : Int).toNat * i0.size) := ⟨_, rfl⟩
  have hMs : M.size = n * 10 := by rw [hM, size_madeCells, hz1]; simp
  refine ⟨M, hMs, ?_, fun W => ?_⟩
  · rw [hM, hz1]
    exact made_cellsI n
  · have h := run_make (P := Tryz.prog) W 26 86 i0 (.agg zeroI) Tryz.underlying26 hi hz0 .i64 .i64 (n : Int) (n : Int) (by omega) (by omega) (by rw [hz2]; omega) (by omega)
    rw [← hM] at h
    simpa using h

theorem own_made (w : World) (n : Nat) (hn : n ≤ 1100000) (M : Array Value) (hs : M.size = n * 10) (p : List (Itm × Value)) (hp : p.length = n) (hl : M.toList = rowI p) : (w.alloc (.cells M 86)).ownsRow w.heap.size 86 10 (.slice (some ⟨w.heap.size, 0, none⟩) n n) n (rowI p) :=
  ⟨by rw [rowI_length, hp], .inr ⟨w.heap.size, n, M, rfl, Nat.le_refl _, heap_alloc_new w _, Nat.le_refl _, by unfold maxLen; omega, hs, by rw [hl, List.take_of_length_le (by rw [rowI_length, hp]; exact Nat.le_refl _)]⟩⟩

theorem own_type9 {w w' : World} {lo : Nat} {T : TypeId} {sz : Nat} {v : Value} {n : Nat} {xs : List Value} (h : w.ownsRow lo T sz v n xs) {G : Nat} {T2 : TypeId} {sz2 n2 c2 lo2 : Nat} {ys : List Value} (hG : w.ownsRow lo2 T2 sz2 (.slice (some ⟨G, 0, none⟩) n2 c2) n2 ys) (hT : T ≠ T2) (hg : w.grownBy w' (some G)) : w'.ownsRow lo T sz v n xs := by
  refine ⟨h.1, ?_⟩
  rcases h.2 with h | ⟨g, cap, cur, hv, hlo, hb, hr⟩
  · exact .inl h
  · refine .inr ⟨g, cap, cur, hv, hlo, ?_, hr⟩
    have hne : g ≠ G := by
      rintro rfl
      rcases hG.2 with ⟨hv2, _⟩ | ⟨g2, cap2, cur2, hv2, _, hb2, _⟩
      · cases hv2
      · injection hv2 with hv3
        cases hv3
        rw [hb] at hb2
        cases hb2
        exact hT rfl
    rw [hg.block g (Array.getElem?_eq_some_iff.1 hb).1 (fun e => hne (by cases e; rfl))]
    exact hb

/-- the next one is copied -/
theorem CpI.next {w0 : World} {G n0 : Nat} {l : List Itm} {i : Nat} {wr wS w1 : World} (hB : Below w0.heap.size w0 wr) {p : List (Itm × Value)} (hpl : p.length = n0) (hi : i < n0) (hown : wr.ownsRow w0.heap.size 86 10 (.slice (some ⟨G, 0, none⟩) n0 n0) n0 (rowI p)) (hmap : (p.take i).map (·.1) = l.take i) (heach : ∀ q ∈ p.take i, wr.ownsRow w0.heap.size 107 2 q.2 q.1.e.terms.length (rowT q.1.e.terms)) {x : Itm} (hx : l[i]? = some x) {v0 v1 : Value}
    (hS : wS.ownsRow w0.heap.size 86 10 (.slice (some ⟨G, 0, none⟩) n0 n0) n0 (rowI (p.set i (x, v0)))) (hgS : wr.grownBy wS (some G)) (hb1 : Below wS.heap.size wS w1) (ho1 : w1.ownsRow wS.heap.size 107 2 v1 x.e.terms.length (rowT x.e.terms)) :
    CpI w0 G n0 l (i + 1) ((w1.setCell ⟨G, i * 10 + 7, none⟩ v1).setCell ⟨G, i * 10 + 8, none⟩ (.int .u32 x.e.const)) := by
  have hS1 := own_keptB hS hb1
  obtain ⟨s1, s2⟩ := own_set hS1 (i * 10 + 7) v1
  obtain ⟨s3, s4⟩ := own_set s1 (i * 10 + 8) (.int .u32 x.e.const)
  have hgr := grown_trans s2 s4
  obtain ⟨hGlo, hGlt, _, _⟩ := own_at hS
  have hBS : Below w0.heap.size w0 wS := hB.grown hgS hB.size (fun j hj => by cases hj; exact hGlo)
  have hB1 : Below w0.heap.size w0 w1 := hBS.trans (hb1.mono hBS.size)
  have e1 : (rowI (p.set i (x, v0))).set (i * 10 + 7) v1 = rowI ((p.set i (x, v0)).set i (x, v1)) := flat_set1 (fun q : Itm × Value => (itmCells q.1 q.2).toList) 10 (fun _ => rfl) _ i (x, v0) (x, v1) 7 v1 (by rw [List.getElem?_set_self (by omega)]) (by omega) rfl
  have e2 : (rowI (p.set i (x, v1))).set (i * 10 + 8) (.int .u32 x.e.const) = rowI ((p.set i (x, v1)).set i (x, v1)) := flat_set1 (fun q : Itm × Value => (itmCells q.1 q.2).toList) 10 (fun _ => rfl) _ i (x, v1) (x, v1) 8 _ (by rw [List.getElem?_set_self (by omega)]) (by omega) rfl
  rw [e1, List.set_set, e2, List.set_set] at s3
  have htk : (p.set i (x, v1)).take (i + 1) = p.take i ++ [(x, v1)] := by
    rw [List.take_add_one, List.getElem?_set_self (by omega), List.take_set_of_le (Nat.le_refl _)]
    rfl
  refine ⟨hB1.grown hgr hB1.size (fun j hj => by cases hj; exact hGlo), p.set i (x, v1), by simpa using hpl, s3, ?_, fun q hq => ?_⟩
  · rw [htk, List.map_append, hmap, List.take_add_one, hx]
    rfl
  · rw [htk] at hq
    rcases List.mem_append.1 hq with hq | hq
    · exact own_type9 (own_keptB (own_type9 (heach q hq) hown (by decide) hgS) hb1) hS1 (by decide) hgr
    · rw [List.mem_singleton] at hq
      subst hq
      exact own_weaken (own_low ho1 hgr hGlt) hBS.size

set_option maxHeartbeats 8000000 in
theorem copyItems_any (a : Option Addr) (c : Nat) (l : List Itm) (hl : l.length ≤ 1100000) (hf : ∀ x ∈ l, x.e.terms.length ≤ 9000000) (w : World) (hS : ItSrc w a l) :
    Calls Tryz.prog 50 #[.slice a l.length c] w fun e w' => Below w.heap.size w w' ∧ ∃ g p, e = .returned (.slice (some ⟨g, 0, none⟩) l.length l.length) ∧ ItOwn w.heap.size w' (.slice (some ⟨g, 0, none⟩) l.length l.length) p ∧ p.map (·.1) = l := by
  obtain ⟨n0, hn0⟩ : ∃ n0, n0 = l.length := ⟨_, rfl⟩
  rw [← hn0]
  rw [← hn0] at hl
  obtain ⟨M, hMs, hMl, hmk⟩ := made_items n0 hl
  have hst : Hid (CpI w w.heap.size n0 l 0 (w.alloc (.cells M 86))) := ⟨below_alloc w _, List.replicate n0 (itmE, .slice none 0 0), by simp, own_made w n0 hl M hMs _ (by simp) hMl, by simp, fun q hq => by simp at hq⟩
  replace hn0 := Hid.intro hn0
  have hSH := Hid.intro hS
  have hfH := Hid.intro hf
  clear hS hf hMl hMs
  go_enter Tryz.func50, Tryz.ntmps50
  go_wp2
  all_goals first | omega | skip
  generalize w.alloc (.cells M 86) = W1 at *
  clear hmk
  obtain ⟨G, hG⟩ : ∃ G, G = w.heap.size := ⟨_, rfl⟩
  rw [← hG] at hst ⊢
  replace hG := Hid.intro hG
  go_loopw [4] (fun v4 wr => ∃ i : Nat, i ≤ n0 ∧ v4 = .int .i64 (i : Int) ∧ Hid (CpI w G n0 l i wr)) (fun v4 wr => n0 - (intOf v4).toNat)
  case atStart => exact ⟨0, by omega, rfl, hst⟩
  case round =>
    clear hst
    obtain ⟨i, hi, rfl, hC⟩ := hrel
    by_cases hlt : i < n0
    · obtain ⟨x, hx⟩ : ∃ x, l[i]? = some x := ⟨l[i]'(by rw [← hn0.out]; exact hlt), List.getElem?_eq_getElem _⟩
      rcases hSH.out with h0 | ⟨gl, ol, rfl, hgl, hat⟩
      · rw [h0] at hx; simp at hx
      obtain ⟨va, vc, hI, hTm⟩ := hat i x hx
      obtain ⟨p, hpl, hown, hmap, heach⟩ := hC.out.own
      have hIr := hI.below hC.out.bel hgl
      obtain ⟨d0, d1, d2, d3, d4, d5, d6, d7, d8, d9⟩ := hIr
      have hgG : gl ≠ G := by have := hG.out; omega
      obtain ⟨hGlo, hGlt, hGc, hGf⟩ := own_at hown
      have hk : ∀ j, j < 10 → ∃ v, wr.cell? ⟨G, i * 10 + j, none⟩ = some v := fun j hj => by
        rw [hGc _ (by rw [rowI_length]; omega), List.getElem?_eq_getElem (by rw [rowI_length]; omega)]
        exact ⟨_, rfl⟩
      obtain ⟨k0, e0⟩ := hk 0 (by omega)
      obtain ⟨k1, e1⟩ := hk 1 (by omega)
      obtain ⟨k2, e2⟩ := hk 2 (by omega)
      obtain ⟨k3, e3⟩ := hk 3 (by omega)
      obtain ⟨k4, e4⟩ := hk 4 (by omega)
      obtain ⟨k5, e5⟩ := hk 5 (by omega)
      obtain ⟨k6, e6⟩ := hk 6 (by omega)
      obtain ⟨k7, e7⟩ := hk 7 (by omega)
      obtain ⟨k8, e8⟩ := hk 8 (by omega)
      obtain ⟨k9, e9⟩ := hk 9 (by omega)
      rw [Nat.add_zero] at e0
      have hlt2 : (i : Int) < (n0 : Int) := by omega
      have z0 : (0 : Int) ≤ (i : Int) := by omega
      have hput := Hid.intro (own_putI hown (i := i) (by omega) x (.slice va x.e.terms.length vc))
      clear hk hGc hat
      replace hI := Hid.intro hI
      replace hTm := Hid.intro hTm
      replace hown := Hid.intro hown
      replace hmap := Hid.intro hmap
      replace heach := Hid.intro heach
      replace hx := Hid.intro hx
      generalize hln : x.e.terms.length = ln at *
      go_upto_region 6 with fail
      all_goals first | omega | skip
      show Code.wp _ _ _ _ (setRow9 wr G (i * 10) (itmCells x (.slice va ln vc)).toList)
      generalize setRow9 wr G (i * 10) (itmCells x (.slice va ln vc)).toList = wS at *
      clear d0 d1 d2 d3 d4 d5 d6 d7 d8 d9 e0 e1 e2 e3 e4 e5 e6 e7 e8 e9
      have hBS : Hid (Below w.heap.size w wS) := hC.out.bel.grown hput.out.2 hC.out.bel.size (fun j hj => by cases hj; exact hGlo)
      obtain ⟨d0, d1, d2, d3, d4, d5, d6, d7, d8, d9⟩ := hI.out.below hBS.out hgl
      clear d0 d1 d2 d3 d4 d5 d6 d9
      have h63 := Hid.intro (copyLin_any va ln vc x.e hln.symm (by rw [← hln]; exact hfH.out x (List.mem_of_getElem? hx.out)) wS (by have := hTm.out.below hBS.out; exact this))
      obtain ⟨_, hGlt2, hGc2, hGf2⟩ := own_at hput.out.1
      have hcel : Hid (∀ W, Below wS.heap.size wS W → (∃ v, W.cell? ⟨G, i * 10 + 7, none⟩ = some v) ∧ (∃ v, W.cell? ⟨G, i * 10 + 8, none⟩ = some v) ∧ W.frozen? ⟨G, i * 10 + 7, none⟩ = false ∧ W.frozen? ⟨G, i * 10 + 8, none⟩ = false) := fun W hb => by
        obtain ⟨_, _, hc, hf⟩ := own_at (own_keptB hput.out.1 hb)
        have hlen : (rowI (p.set i (x, .slice va ln vc))).length = n0 * 10 := by rw [rowI_length]; simp [hpl]
        exact ⟨⟨_, (hc _ (by omega)).trans (List.getElem?_eq_getElem (by omega))⟩, ⟨_, (hc _ (by omega)).trans (List.getElem?_eq_getElem (by omega))⟩, hf _, hf _⟩
      have hnext : Hid (∀ w1 a' c', Below wS.heap.size wS w1 → w1.ownsRow wS.heap.size 107 2 (.slice a' ln c') ln (rowT x.e.terms) → CpI w G n0 l (i + 1) ((w1.setCell ⟨G, i * 10 + 7, none⟩ (.slice a' ln c')).setCell ⟨G, i * 10 + 8, none⟩ (.int .u32 x.e.const))) := fun w1 a' c' hb ho => CpI.next hC.out.bel hpl hlt hown.out hmap.out heach.out hx.out hput.out.1 hput.out.2 hb (by rw [hln]; exact ho)
      clear hGc2 hGf2 hGf hln hput
      go_wp2_with (go_at_call 51; (with_reducible refine (h63.out).mono ?_); rintro e w1 ⟨a', c', rfl, ho1, hb1⟩; obtain ⟨⟨y7, k7⟩, ⟨y8, k8⟩, f7, f8⟩ := hcel.out w1 hb1; have hfin := Hid.intro (hnext.out w1 a' c' hb1 ho1); clear ho1 hb1)
      all_goals first | omega | skip
      go_roundw
      case rel => exact ⟨i + 1, by omega, by go_num, hfin⟩
      case measure => simp [intOf]; omega
    · have hin : n0 = i := by omega
      have hCe := hC.out
      rw [← hin] at hCe
      subst hin
      have hlt3 : ¬ ((n0 : Int) < (n0 : Int)) := by omega
      clear hC
      replace hCe := Hid.intro hCe
      go_wp2
      all_goals first | omega | skip
      go_ret
      obtain ⟨p, hpl, hown, hmap, heach⟩ := hCe.out.own
      rw [List.take_of_length_le (by omega)] at hmap heach
      rw [hn0.out, List.take_length] at hmap
      refine ⟨hCe.out.bel, G, rfl, p, ⟨?_, heach⟩, hmap⟩
      rw [hpl]
      exact hown

end Go.Proofs.YtmndccbeddaphaaGreatDoor
/- object's reader: term. -/
namespace Go.Proofs.YtmndccbeddaphaaGreatDoor
open Go.ChangeShapes Go.WideShapes Go.ChangeAt Go.RowKit Go.Sort
set_option linter.unusedVariables false
set_option linter.unusedSimpArgs false
set_option maxRecDepth 100000

def tmP (zs : List Int) (p : Nat) : Nat := rdP zs (txP zs p) 4
def tmB (zs : List Int) (p : Nat) (bad : Option (Int × Int)) : Option (Int × Int) := rdB zs (txP zs p) 4 (txB zs p bad)
def tmN (zs : List Int) (p : Nat) : Int := rdV zs (txP zs p) 4
theorem two_readR {T : TypeId} {w : World} {g : Nat} {v0 v1 : Value} (h : w.heap[g]? = some (.cells #[v0, v1] T (0, 0))) : w.cell? ⟨g, 0, none⟩ = some v0 ∧ w.cell? ⟨g, 1, none⟩ = some v1 := ⟨(cell_blockT h 0).trans rfl, (cell_blockT h 1).trans rfl⟩

section
variable {w w' : World} {r : Nat} {a : Option Addr} {c : Nat} {zs : List Int} {p : Nat} {bad : Option (Int × Int)} {rp : Option Nat} {mv : Value} {last : List UInt8}

set_option maxHeartbeats 4000000 in
theorem term_is (h : RS w r a c zs p bad rp mv last) : Calls Tryz.prog 142 #[.pointer (some ⟨r, 0, none⟩)] w fun e w' => e = .returned (.agg #[.string (txS zs p), .int .u32 (tmN zs p)]) ∧ w.grownBy w' (some r) ∧ ∃ rp', RS w' r a c zs (tmP zs p) (tmB zs p bad) rp' mv last := by
  have hlt := blk_lt h.blk
  have hA := Hid.intro (h.below (below_alloc w (.cells #[.string ⟨#[]⟩, .int .u32 0] 107)))
  have h115 := Hid.intro (text_is hA.out)
  have h113 : Hid (∀ (w2 : World) rp2, RS w2 r a c zs (txP zs p) (txB zs p bad) rp2 mv last → Calls Tryz.prog 113 #[.pointer (some ⟨r, 0, none⟩), .int .i64 4] w2 fun e w' => e = .returned (.int .u32 (tmN zs p)) ∧ w2.grownBy w' (some r) ∧ ∃ rp', RS w' r a c zs (tmP zs p) (tmB zs p bad) rp' mv last) := fun w2 rp2 hR => number_is hR 4 (.inr (.inr rfl))
  have hfin : Hid (∀ w2 w3 x y, (w.alloc (.cells #[.string ⟨#[]⟩, .int .u32 0] 107)).grownBy w2 (some r) → w2.grownBy w3 (some r) → (∃ rp', RS w3 r a c zs (tmP zs p) (tmB zs p bad) rp' mv last) → w3.heap[w.heap.size]? = some (.cells #[.string ⟨#[]⟩, .int .u32 0] 107 (0, 0)) ∧ ((w3.setCell ⟨w.heap.size, 0, none⟩ x).setCell ⟨w.heap.size, 1, none⟩ y).heap[w.heap.size]? = some (.cells #[x, y] 107 (0, 0)) ∧ w.grownBy ((w3.setCell ⟨w.heap.size, 0, none⟩ x).setCell ⟨w.heap.size, 1, none⟩ y) (some r) ∧ ∃ rp', RS ((w3.setCell ⟨w.heap.size, 0, none⟩ x).setCell ⟨w.heap.size, 1, none⟩ y) r a c zs (tmP zs p) (tmB zs p bad) rp' mv last) := fun w2 w3 x y g1 g2 hR => by
    have hne : (w.heap.size : Nat) ≠ r := Nat.ne_of_gt hlt
    have g12 := grown_trans g1 g2
    have h0 := heap_alloc_new w (.cells #[.string ⟨#[]⟩, .int .u32 0] 107)
    have h3 := (g12.block _ (blk_lt h0) (fun e => hne (Option.some.inj e))).trans h0
    obtain ⟨s1, k1⟩ := row_set h3 0 x
    obtain ⟨s2, k2⟩ := row_set s1 1 y
    have k := grown_trans k1 k2
    refine ⟨h3, s2, ?_, ?_⟩
    · have hg := grown_trans (World.grownBy_alloc w (.cells #[.string ⟨#[]⟩, .int .u32 0] 107) (some r)) g12
      exact ⟨by rw [k.os, hg.os], by rw [k.tape, hg.tape], by rw [k.output, hg.output], Nat.le_trans hg.size k.size, fun j hj hjr => by rw [k.block j (Nat.lt_of_lt_of_le hj hg.size) (fun e => by cases e; exact absurd hj (Nat.lt_irrefl _)), hg.block j hj hjr]⟩
    · obtain ⟨rp', hR⟩ := hR
      refine ⟨rp', ⟨(k.block r (blk_lt hR.blk) (fun e => hne (Option.some.inj e).symm)).trans hR.blk, lies_grown hR.lies (fun z hz => ⟨Nat.lt_trans (hR.old z hz) (blk_lt hR.blk), fun e => ?_⟩) k, hR.old, hR.cap, hR.few, hR.at_, hR.rf.grown (fun q hq e => ?_) k⟩⟩
      · have := hR.old z hz; have e' := Option.some.inj e; omega
      · have e' := Option.some.inj e
        subst e'
        have h5 := hR.rf
        cases hb : tmB zs p bad with
        | none => rw [hb] at h5; rw [hq] at h5; cases h5
        | some f =>
          rw [hb] at h5
          obtain ⟨q', h6, h7⟩ := h5
          rw [hq] at h6
          cases h6
          rw [h3] at h7
          cases h7
  obtain ⟨n0, hn0⟩ : ∃ n0, n0 = tmN zs p := ⟨_, rfl⟩
  rw [← hn0] at h113 ⊢
  generalize txS zs p = S at *
  clear h hA hn0
  go_enter Tryz.func142, Tryz.ntmps142
  go_wp2_with (first
    | (go_at_call 115; (with_reducible refine (h115.out).mono ?_); rintro e w2 ⟨rfl, g1, rp2, hR2⟩; replace g1 := Hid.intro g1; replace hR2 := Hid.intro hR2)
    | (go_at_call 113; (with_reducible refine (h113.out _ rp2 hR2.out).mono ?_); rintro e w3 ⟨rfl, g2, hR3⟩; obtain ⟨k1, k2, k3, k4⟩ := hfin.out w2 w3 (.string S) (.int .u32 n0) g1.out g2 hR3; obtain ⟨d0, d1⟩ := two_readR k1; have df := fun j => frozen_of_row w3 w.heap.size j _ 107 k1; replace k3 := Hid.intro k3; replace k4 := Hid.intro k4; replace k2 := Hid.intro k2; clear k1 g2 hR3))
  all_goals first | omega | skip
  obtain ⟨z0, z1⟩ := two_readR k2.out
  refine bodyPost_ret (by simp [results, Tryz.results142, go_sem, z0, z1]; try rfl) rfl ?_
  exact ⟨rfl, k3.out, k4.out⟩
end
end Go.Proofs.YtmndccbeddaphaaGreatDoor
namespace Go.Proofs.YtmndccbeddaphaaGreatDoor
open Go.ChangeShapes Go.WideShapes Go.ChangeAt Go.RowKit Go.Sort
set_option linter.unusedVariables false
set_option linter.unusedSimpArgs false
set_option maxRecDepth 100000

def txL (zs : List Int) (p : Nat) : List UInt8 := (txS zs p).data.toList
theorem str_txL (zs : List Int) (p : Nat) : str (txL zs p) = txS zs p := by unfold txL str; simp
def tmAt (zs : List Int) (p : Nat) : Tm := ⟨txL zs p, tmN zs p⟩
/-- k terms more -/
def rdLoop (zs : List Int) : Nat → List Tm → Nat → Option (Int × Int) → List Tm × Nat × Option (Int × Int)
  | 0, acc, p, b => (acc, p, b)
  | k + 1, acc, p, b => if b.isSome then ([], p, b) else rdLoop zs k (acc ++ [tmAt zs p]) (tmP zs p) (tmB zs p b)
def rdTerms (zs : List Int) (p : Nat) (b : Option (Int × Int)) : List Tm × Nat × Option (Int × Int) := rdLoop zs (rdV zs p 2).toNat [] (rdP zs p 2) (rdB zs p 2 b)

theorem rdV_bd {zs : List Int} (hz : O.AreBytes zs) (p : Nat) : 0 ≤ rdV zs p 2 ∧ rdV zs p 2 ≤ 65535 := by
  unfold rdV
  split
  · have hb := O.leN_bd ((zs.drop p).take 2) (O.areBytes_take _ (O.areBytes_drop _ hz _) 2)
    have hl : ((zs.drop p).take 2).length = 2 := by simp; omega
    rw [hl] at hb
    omega
  · omega

section
variable {w w' : World} {r : Nat} {a : Option Addr} {c : Nat} {zs : List Int} {p : Nat} {bad : Option (Int × Int)} {rp : Option Nat} {mv : Value} {last : List UInt8}

/-- a row of its own has grown -/
theorem RS.off (h : RS w r a c zs p bad rp mv last) {lo : Nat} {T : TypeId} {sz n : Nat} {v : Value} {xs : List Value} (hr : w.ownsRow lo T sz v n xs) (hlo : r < lo) (hT : T ≠ 68) (hg : w.grownBy w' v.ownBlock) : RS w' r a c zs p bad rp mv last := by
  have hne : ∀ g, v.ownBlock = some g → lo ≤ g := fun g hgg => (hr.lt g hgg).1
  refine ⟨(hg.block r (blk_lt h.blk) (fun e => ?_)).trans h.blk, lies_grown h.lies (fun x hx => ⟨Nat.lt_trans (h.old x hx) (blk_lt h.blk), fun e => ?_⟩) hg, h.old, h.cap, h.few, h.at_, h.rf.grown (fun q hq e => ?_) hg⟩
  · have := hne r e.symm; omega
  · have := hne _ e; have := h.old x hx; omega
  · cases hb : bad with
    | none => have h5 := h.rf; rw [hb, hq] at h5; cases h5
    | some f =>
      have h5 := h.rf
      rw [hb] at h5
      obtain ⟨q', h6, h7⟩ := h5
      rw [hq] at h6
      cases h6
      rcases hr.2 with ⟨rfl, _⟩ | ⟨g', cap, cur, rfl, _, hgg, _⟩
      · simp [Value.ownBlock] at e
      · simp [Value.ownBlock] at e
        subst e
        rw [hgg] at h7
        cases h7
        exact hT rfl
theorem grown_new {w3 w4 : World} {k k2 : Option Nat} (h1 : w.grownBy w3 k) (h2 : w3.grownBy w4 k2) (hk : ∀ g, k2 = some g → w.heap.size ≤ g) : w.grownBy w4 k :=
  ⟨by rw [h2.os, h1.os], by rw [h2.tape, h1.tape], by rw [h2.output, h1.output], Nat.le_trans h1.size h2.size, fun j hj hjk => by rw [h2.block j (Nat.lt_of_lt_of_le hj h1.size) (fun e => by have := hk j e.symm; omega), h1.block j hj hjk]⟩

/-- while a list is read -/
structure RL (w : World) (r : Nat) (a : Option Addr) (c : Nat) (zs : List Int) (mv : Value) (last : List UInt8) (R : List Tm × Nat × Option (Int × Int)) (k : Nat) (L : List Tm) (p : Nat) (b : Option (Int × Int)) (rp : Option Nat) (v : Value) (wr : World) : Prop where
  rs : RS wr r a c zs p b rp mv last
  own : wr.ownsRow w.heap.size 107 2 v L.length (rowT L)
  g : w.grownBy wr (some r)
  res : rdLoop zs k L p b = R
  lt : r < w.heap.size

theorem RL.mid {R : List Tm × Nat × Option (Int × Int)} {k : Nat} {L : List Tm} {v : Value} {wr w2 : World} (h : RL w r a c zs mv last R k L p bad rp v wr) (hg : wr.grownBy w2 (some r)) (o : Obj) : (w2.alloc o).ownsRow w.heap.size 107 2 v L.length (rowT L) := own_keptB (own_low h.own hg h.lt) (below_alloc w2 o)
theorem RL.next {R : List Tm × Nat × Option (Int × Int)} {k : Nat} {L : List Tm} {v v' : Value} {wr w2 w4 : World} {rp2 : Option Nat} (h : RL w r a c zs mv last R (k + 1) L p none rp v wr) (hg : wr.grownBy w2 (some r)) (hR : RS w2 r a c zs (tmP zs p) (tmB zs p none) rp2 mv last) (o : Obj)
    (ho : w4.ownsRow w.heap.size 107 2 v' (L.length + 1) (rowT L ++ [.string (txS zs p), .int .u32 (tmN zs p)])) (hg4 : (w2.alloc o).grownBy w4 v.ownBlock) : RL w r a c zs mv last R k (L ++ [tmAt zs p]) (tmP zs p) (tmB zs p none) rp2 v' w4 := by
  have hm := h.mid hg o
  refine ⟨(hR.below (below_alloc w2 o)).off hm h.lt (by decide) hg4, ?_, ?_, ?_, h.lt⟩
  · have e : rowT (L ++ [tmAt zs p]) = rowT L ++ [.string (txS zs p), .int .u32 (tmN zs p)] := by
      unfold rowT
      rw [List.flatMap_append]
      simp [Tm.cells, tmAt, str_txL]
    rw [e, List.length_append]
    exact ho
  · exact grown_new (grown_trans h.g (grown_trans hg (World.grownBy_alloc w2 o (some r)))) hg4 (fun g hgg => (hm.lt g hgg).1)
  · have := h.res
    rw [rdLoop] at this
    simpa using this

set_option maxHeartbeats 8000000 in
theorem readTerms_is (h : RS w r a c zs p bad rp mv last) : Calls Tryz.prog 141 #[.pointer (some ⟨r, 0, none⟩), .int .i64 65535, .func (.func 142) #[.pointer (some ⟨r, 0, none⟩)] #[]] w fun e w' => ∃ v, e = .returned v ∧ w.grownBy w' (some r) ∧ w'.ownsRow w.heap.size 107 2 v (rdTerms zs p bad).1.length (rowT (rdTerms zs p bad).1) ∧ ∃ rp', RS w' r a c zs (rdTerms zs p bad).2.1 (rdTerms zs p bad).2.2 rp' mv last := by
  obtain ⟨i1, hi1, hy0, hy1, hy2⟩ := info_parts info123
  have hbd := rdV_bd h.lies.1 p
  have hlt := blk_lt h.blk
  obtain ⟨_, c1, _, _, _⟩ := five_read h.blk
  have h113 : Hid (Calls Tryz.prog 113 #[.pointer (some ⟨r, 0, none⟩), .int .i64 2] w fun e w' => e = .returned (.int .u32 (rdV zs p 2)) ∧ w.grownBy w' (some r) ∧ ∃ rp', RS w' r a c zs (rdP zs p 2) (rdB zs p 2 bad) rp' mv last) := number_is h 2 (.inr (.inl rfl))
  have hR : Hid (rdLoop zs (rdV zs p 2).toNat [] (rdP zs p 2) (rdB zs p 2 bad) = rdTerms zs p bad) := rfl
  generalize rdTerms zs p bad = R at *
  obtain ⟨n0, hn0⟩ : ∃ n0 : Nat, rdV zs p 2 = (n0 : Int) := ⟨(rdV zs p 2).toNat, by omega⟩
  rw [hn0] at h113 hR hbd
  have hn1 : n0 ≤ 65535 := by omega
  rw [Int.toNat_natCast] at hR
  clear hn0 hbd
  have hltH := Hid.intro hlt
  clear h hlt
  go_enter Tryz.func141, Tryz.ntmps141
  go_wp2_with (go_at_call 113; (with_reducible refine (h113.out).mono ?_); rintro e w1 ⟨rfl, g1, rp1, hR1⟩; replace g1 := Hid.intro g1; replace hR1 := Hid.intro hR1)
  all_goals first | omega | skip
  have hL0 : Hid (RL w r a c zs mv last R n0 [] (rdP zs p 2) (rdB zs p 2 bad) rp1 (.slice none 0 0) w1) := ⟨hR1.out, World.ownsRow_nil _ _ _ _, g1.out, hR.out, hltH.out⟩
  clear g1 hR1 h113 hR c1
  go_loopw [9, 24] (fun v9 v24 wr => ∃ (j : Nat) (L : List Tm) (p' : Nat) (b' : Option (Int × Int)) (rp' : Option Nat) (a9 : Option Addr) (l9 c9 : Nat), j ≤ n0 ∧ v24 = .int .i64 (j : Int) ∧ v9 = .slice a9 l9 c9 ∧ l9 ≤ j ∧ Hid (l9 = L.length) ∧ Hid (RL w r a c zs mv last R (n0 - j) L p' b' rp' (.slice a9 L.length c9) wr)) (fun v9 v24 _ => n0 - (intOf v24).toNat)
  case atStart => exact ⟨0, [], _, _, _, none, 0, 0, by omega, rfl, rfl, by omega, rfl, hL0⟩
  case round =>
    obtain ⟨j, L, p', b', rp', a9, l9, c9, hj, rfl, rfl, hl9, hl, hL⟩ := hrel
    clear hL0
    by_cases hjn : j < n0
    · have hk : Hid (n0 - j = (n0 - (j + 1)) + 1) := by show _ = _; omega
      have h32 := Hid.intro (refused_is hL.out.rs)
      cases b' with
      | some f =>
        go_wp2_with (go_at_call 32; (with_reducible refine (h32.out).mono ?_); rintro e w2 ⟨rfl, hw2⟩; subst w2)
        all_goals first | omega | skip
        go_ret
        have hres : R = ([], p', some f) := by
          rw [← hL.out.res, hk.out, rdLoop]
          rfl
        rw [hres]
        exact ⟨_, rfl, hL.out.g, World.ownsRow_nil _ _ _ _, rp', hL.out.rs⟩
      | none =>
        have h142 := Hid.intro (term_is hL.out.rs)
        have hnx : Hid (∀ w2 rp2 v' w4, wr.grownBy w2 (some r) → RS w2 r a c zs (tmP zs p') (tmB zs p' none) rp2 mv last → w4.ownsRow w.heap.size 107 2 v' (l9 + 1) (rowT L ++ [.string (txS zs p'), .int .u32 (tmN zs p')]) → (w2.alloc (.cells #[.string (txS zs p'), .int .u32 (tmN zs p')] 107)).grownBy w4 (Value.slice a9 l9 c9).ownBlock → RL w r a c zs mv last R (n0 - (j + 1)) (L ++ [tmAt zs p']) (tmP zs p') (tmB zs p' none) rp2 v' w4) := fun w2 rp2 v' w4 h1 h2 h3 h4 => by
          have hh := hL.out
          rw [hk.out] at hh
          rw [hl.out] at h3 h4
          exact hh.next h1 h2 _ h3 h4
        have hmid : Hid (∀ w2, wr.grownBy w2 (some r) → (w2.alloc (.cells #[.string (txS zs p'), .int .u32 (tmN zs p')] 107)).ownsRow w.heap.size 107 2 (.slice a9 l9 c9) l9 (rowT L) ∧ w.heap.size ≤ (w2.alloc (.cells #[.string (txS zs p'), .int .u32 (tmN zs p')] 107)).heap.size) := fun w2 h1 => by
          have := hL.out.mid h1 (.cells #[.string (txS zs p'), .int .u32 (tmN zs p')] 107)
          rw [← hl.out] at this
          exact ⟨this, by have := hL.out.g.size; have := h1.size; simp; omega⟩
        have hll : Hid (l9 + 1 = (L ++ [tmAt zs p']).length) := by show _ = _; rw [List.length_append, hl.out]; rfl
        generalize txS zs p' = S at *
        generalize tmN zs p' = Nn at *
        clear hL hl hk
        go_wp2_with (first
          | (go_at_call 32; (with_reducible refine (h32.out).mono ?_); rintro e w2 ⟨rfl, hw2⟩; subst w2)
          | (go_at_call 142; (with_reducible refine (h142.out).mono ?_); rintro e w3 ⟨rfl, g3, rp3, hR3⟩; obtain ⟨hm1, hm2⟩ := hmid.out w3 g3; replace g3 := Hid.intro g3; replace hR3 := Hid.intro hR3; replace hm1 := Hid.intro hm1)
          | (at_builtin; go_must (refine wpList_app rfl (.tmp 28) (.tmp 31) 82 rfl w.heap.size 107 i1 _ 2 24 Tryz.underlying82 hi1 hy0 hy1 hy2 rfl (by decide) (.slice a9 l9 c9) l9 (rowT L) rfl hm1.out (.slice (some ⟨w3.heap.size, 0, none⟩) 1 1) 1 [.string S, .int .u32 Nn] rfl (.inr ⟨_, _, rfl, cells_new w3 #[.string S, .int .u32 Nn] 107⟩) rfl (by simp [Value.oneCell']) (by unfold maxLen; omega) (by omega) hm2 ?_; intro v' w4 ho4 hg4 hw4; have hn4 := Hid.intro (hnx.out w3 rp3 v' w4 g3.out hR3.out ho4 hg4); obtain ⟨a4, c4, rfl⟩ := own_slice ho4; clear ho4 hg4 hw4)))
        all_goals first | omega | skip
        go_roundw
        case rel => exact ⟨j + 1, _, _, _, rp3, a4, l9 + 1, c4, by omega, by go_num, rfl, by omega, hll, by rw [← hll.out]; exact hn4⟩
        case measure => simp [intOf]; omega
    · obtain rfl : j = n0 := by omega
      go_wp2_with fail
      all_goals first | omega | skip
      go_ret
      have hres : R = (L, p', b') := by
        rw [← hL.out.res, Nat.sub_self, rdLoop]
      rw [hres, hl.out]
      exact ⟨_, rfl, hL.out.g, hL.out.own, rp', hL.out.rs⟩
end
end Go.Proofs.YtmndccbeddaphaaGreatDoor
