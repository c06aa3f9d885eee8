/- UnitKept: a unit that was assembled, owned; what is copied and spoilt of it. -/
import Derived.Test.YtogkchgjpflmjaaGreatDoorBkA
import Derived.Test.YtogkchgjpflmjaaGreatDoorCu
import Derived.Test.YtogkchgjpflmjaaGreatDoorNms
import Derived.Test.YtogkchgjpflmjaaGreatDoorKn1
/- spandrelkeep's Spoil: what lies in some blocks is written over, the rest stays. -/
namespace Go.Proofs.YtogkchgjpflmjaaGreatDoor
open Go.ChangeShapes Go.WideShapes Go.ChangeAt Go.RowKit Go.Sort
set_option linter.unusedVariables false
set_option linter.unusedSimpArgs false
set_option maxRecDepth 100000
structure Spx (lo hi : Nat) (F : Nat -> TypeId -> Prop) (w w' : World) : Prop where
 os : w'.os = w.os
 tape : w'.tape = w.tape
 output : w'.output = w.output
 size : w.heap.size <= w'.heap.size
 out : ∀ k, k < w.heap.size -> (k < lo ∨ hi <= k) -> w'.heap[k]? = w.heap[k]?
 shp : ∀ (k : Nat) (cur : Array Value) (T : TypeId), w.heap[k]? = some (.cells cur T (0, 0)) -> ∃ cur' : Array Value, w'.heap[k]? = some (.cells cur' T (0, 0)) /\ cur'.size = cur.size
 far : ∀ (k : Nat) (cur : Array Value) (T : TypeId), w.heap[k]? = some (.cells cur T (0, 0)) -> ¬ F k T -> w'.heap[k]? = w.heap[k]?
theorem Spx.refl (lo hi : Nat) (F : Nat -> TypeId -> Prop) (w : World) : Spx lo hi F w w := ⟨rfl, rfl, rfl, Nat.le_refl _, fun _ _ _ => rfl, fun _ cur _ h => ⟨cur, h, rfl⟩, fun _ _ _ _ _ => rfl⟩
theorem Spx.trans {lo hi : Nat} {F : Nat -> TypeId -> Prop} {a b c : World} (h : Spx lo hi F a b) (k : Spx lo hi F b c) : Spx lo hi F a c := by
 refine ⟨k.os.trans h.os, k.tape.trans h.tape, k.output.trans h.output, Nat.le_trans h.size k.size, fun i h1 h2 => (k.out i (Nat.lt_of_lt_of_le h1 h.size) h2).trans (h.out i h1 h2), fun i cur T hb => ?_, fun i cur T hb hF => ?_⟩
 ·obtain ⟨c1, h1, h2⟩ := h.shp i cur T hb
  obtain ⟨c2, h3, h4⟩ := k.shp i c1 T h1
  exact ⟨c2, h3, h4.trans h2⟩
 ·have e := h.far i cur T hb hF
  exact (k.far i cur T (e.trans hb) hF).trans e
theorem Spx.mono {lo hi : Nat} {F F' : Nat -> TypeId -> Prop} {w w' : World} (h : Spx lo hi F w w') (hF : ∀ k T, F k T -> F' k T) : Spx lo hi F' w w' :=
 ⟨h.os, h.tape, h.output, h.size, h.out, h.shp, fun k cur T hb hn => h.far k cur T hb (fun x => hn (hF k T x))⟩
theorem Spx.set {lo hi : Nat} {F : Nat -> TypeId -> Prop} {w : World} {g : Nat} {cur : Array Value} {T : TypeId} (hb : w.heap[g]? = some (.cells cur T (0, 0))) (h1 : lo <= g) (h2 : g < hi) (hF : F g T) (j : Nat) (y : Value) : Spx lo hi F w (w.setCell ⟨g, j, none⟩ y) := by
 obtain ⟨r, hg⟩ := row_set hb j y
 refine ⟨hg.os, hg.tape, hg.output, hg.size, fun k hk ho => hg.block k hk (fun e => ?_), fun k cu T' hk => ?_, fun k cu T' hk hn => hg.block k (blk_lt hk) (fun e => ?_)⟩
 ·cases e; omega
 ·by_cases e : k = g
  ·subst e
   rw [hb] at hk
   cases hk
   exact ⟨_, r, by simp⟩
  ·exact ⟨cu, (hg.block k (blk_lt hk) (fun x => e (by cases x; rfl))).trans hk, rfl⟩
 ·cases e
  rw [hb] at hk
  cases hk
  exact hn hF
theorem spx_below {lo hi : Nat} {F : Nat -> TypeId -> Prop} {w w' : World} (h : Below w.heap.size w w') : Spx lo hi F w w' :=
 ⟨h.os, h.tape, h.output, h.size, fun k hk _ => h.block k hk, fun k cur T hb => ⟨cur, (h.block k (blk_lt hb)).trans hb, rfl⟩, fun k cur T hb _ => h.block k (blk_lt hb)⟩
def STm (w : World) (lo hi : Nat) (v : Value) : Prop := ∃ a n c, v = .slice a n c /\ n <= 4611686018427387904 /\ (0 < n -> ∃ g cur, a = some ⟨g, 0, none⟩ /\ lo <= g /\ g < hi /\ w.heap[g]? = some (.cells cur 123 (0, 0)) /\ n * 2 <= cur.size)
theorem STm.keep {w w' : World} {lo hi : Nat} {v : Value} {F : Nat -> TypeId -> Prop} (h : STm w lo hi v) (hs : Spx lo hi F w w') : STm w' lo hi v := by
 obtain ⟨a, n, c, hv, hn, h⟩ := h
 refine ⟨a, n, c, hv, hn, fun h0 => ?_⟩
 obtain ⟨g, cur, ha, h1, h2, hb, hl⟩ := h h0
 obtain ⟨cur', hb', hs'⟩ := hs.shp g cur 123 hb
 exact ⟨g, cur', ha, h1, h2, hb', by omega⟩
def SMid (w : World) (lo hi : Nat) (T : TypeId) (sz off g n i : Nat) : Prop := ∃ cur : Array Value, w.heap[g]? = some (.cells cur T (0, 0)) /\ n * sz <= cur.size /\ ∀ j, i <= j -> j < n -> ∃ v, cur[j * sz + off]? = some v /\ STm w lo hi v
theorem SMid.keep {w w' : World} {lo hi : Nat} {T : TypeId} {sz off g n i : Nat} {F : Nat -> TypeId -> Prop} (h : SMid w lo hi T sz off g n i) (hs : Spx lo hi F w w') (hF : ¬ F g T) : SMid w' lo hi T sz off g n i := by
 obtain ⟨cur, hb, hl, h⟩ := h
 refine ⟨cur, (hs.far g cur T hb hF).trans hb, hl, fun j h1 h2 => ?_⟩
 obtain ⟨v, hv, ht⟩ := h j h1 h2
 exact ⟨v, hv, ht.keep hs⟩
theorem SMid.up {w : World} {lo hi : Nat} {T : TypeId} {sz off g n i : Nat} (h : SMid w lo hi T sz off g n i) : SMid w lo hi T sz off g n (i + 1) := by
 obtain ⟨cur, hb, hl, h⟩ := h
 exact ⟨cur, hb, hl, fun j h1 h2 => h j (by omega) h2⟩
theorem SMid.set {w : World} {lo hi : Nat} {T : TypeId} {sz off g n i : Nat} (h : SMid w lo hi T sz off g n i) (h1 : lo <= g) (h2 : g < hi) {m : Nat} (hm : m < i * sz) (y : Value) : SMid (w.setCell ⟨g, m, none⟩ y) lo hi T sz off g n i := by
 obtain ⟨cur, hb, hl, h⟩ := h
 obtain ⟨r, _⟩ := row_set hb m y
 refine ⟨_, r, by simpa using hl, fun j h3 h4 => ?_⟩
 obtain ⟨v, hv, ht⟩ := h j h3 h4
 refine ⟨v, ?_, ht.keep (Spx.set (F := fun _ _ => True) hb h1 h2 trivial m y)⟩
 have := Nat.mul_le_mul_right sz h3
 rw [Array.getElem?_setIfInBounds_ne (by omega)]
 exact hv
theorem spx_row {lo hi : Nat} {T : TypeId} {sz off g n i : Nat} {F : Nat -> TypeId -> Prop} (h1 : lo <= g) (h2 : g < hi) (hF : F g T) : ∀ (vs : List Value) {w : World} (k : Nat), SMid w lo hi T sz off g n i -> k + vs.length <= i * sz -> SMid (setRow9 w g k vs) lo hi T sz off g n i /\ Spx lo hi F w (setRow9 w g k vs) := by
 intro vs
 induction vs with
 | nil => intro w k h _; exact ⟨h, Spx.refl _ _ _ _⟩
 | cons v vs ih =>
  intro w k h hk
  simp only [List.length_cons] at hk
  have hs := h.set h1 h2 (m := k) (by omega) v
  obtain ⟨cur, hb, _⟩ := h
  obtain ⟨r1, r2⟩ := ih (k + 1) hs (by omega)
  exact ⟨r1, (Spx.set hb h1 h2 hF k v).trans r2⟩
def SRw (w : World) (lo hi : Nat) (T : TypeId) (sz off : Nat) (a : Option Addr) (n i : Nat) : Prop := i < n -> ∃ g, a = some ⟨g, 0, none⟩ /\ lo <= g /\ g < hi /\ SMid w lo hi T sz off g n i
theorem SRw.keep {w w' : World} {lo hi : Nat} {T : TypeId} {sz off n i : Nat} {a : Option Addr} {F : Nat -> TypeId -> Prop} (h : SRw w lo hi T sz off a n i) (hs : Spx lo hi F w w') (hF : ∀ g, a = some ⟨g, 0, none⟩ -> ¬ F g T) : SRw w' lo hi T sz off a n i := by
 intro hi'
 obtain ⟨g, ha, h1, h2, h⟩ := h hi'
 exact ⟨g, ha, h1, h2, h.keep hs (hF g ha)⟩
def SGl (w : World) (lo hi : Nat) (a : Option Addr) (n : Nat) : Prop := 0 < n -> ∃ g cur, a = some ⟨g, 0, none⟩ /\ lo <= g /\ g < hi /\ w.heap[g]? = some (.cells cur 9 (0, 0)) /\ n <= cur.size
theorem SGl.keep {w w' : World} {lo hi n : Nat} {a : Option Addr} {F : Nat -> TypeId -> Prop} (h : SGl w lo hi a n) (hs : Spx lo hi F w w') : SGl w' lo hi a n := by
 intro h0
 obtain ⟨g, cur, ha, h1, h2, hb, hl⟩ := h h0
 obtain ⟨cur', hb', hs'⟩ := hs.shp g cur 9 hb
 exact ⟨g, cur', ha, h1, h2, hb', by omega⟩
theorem stm_own {w : World} {lo hi n : Nat} {v : Value} {xs : List Value} (h : w.ownsRow lo 123 2 v n xs) (hn : n <= 4611686018427387904) (hh : w.heap.size <= hi) : STm w lo hi v := by
 rcases h.2 with ⟨hv, h0⟩ | ⟨g, cap, cur, hv, hlo, hb, hc, _, hs, _⟩
 ·exact ⟨none, 0, 0, hv, by omega, fun h => by omega⟩
 ·exact ⟨_, n, cap, hv, hn, fun _ => ⟨g, cur, rfl, hlo, Nat.lt_of_lt_of_le (blk_lt hb) hh, hb, by omega⟩⟩
theorem srw_items {w : World} {lo hi n c : Nat} {a : Option Addr} {p : List (Itm × Value)} (h : ItOwn lo w (.slice a n c) p) (hp : p.length = n) (hf : ∀ q ∈ p, q.1.e.terms.length <= 4611686018427387904) (hh : w.heap.size <= hi) : SRw w lo hi 91 10 7 a n 0 := by
 intro h0
 have hr := h.row
 rw [hp] at hr
 rcases hr.2 with ⟨hv, h0'⟩ | ⟨g, cap, cur, hv, hlo, hb, hc, _, hs, ht⟩
 ·omega
 ·cases hv
  refine ⟨g, rfl, hlo, Nat.lt_of_lt_of_le (blk_lt hb) hh, cur, hb, by rw [hs]; exact Nat.mul_le_mul_right 10 hc, fun j _ hj => ?_⟩
  have hq : p[j]? = some (p[j]'(by omega)) := List.getElem?_eq_getElem _
  have hat : (rowI p)[j * 10 + 7]? = some (p[j]'(by omega)).2 := flat_at (fun q : Itm × Value => (itmCells q.1 q.2).toList) 10 (fun _ => rfl) p j 7 _ hq (by omega)
  rw [<- ht, List.getElem?_take_of_lt (by omega)] at hat
  refine ⟨_, by rw [<- Array.getElem?_toList]; exact hat, stm_own (h.each _ (List.getElem_mem _)) (hf _ (List.getElem_mem _)) hh⟩
theorem srw_equs {w : World} {lo hi n c : Nat} {a : Option Addr} {p : List ((List UInt8 × Lin) × Value)} (h : EqOwn lo w (.slice a n c) p) (hp : p.length = n) (hf : ∀ q ∈ p, q.1.2.terms.length <= 4611686018427387904) (hh : w.heap.size <= hi) : SRw w lo hi 101 3 1 a n 0 := by
 intro h0
 have hr := h.row
 rw [hp] at hr
 rcases hr.2 with ⟨hv, h0'⟩ | ⟨g, cap, cur, hv, hlo, hb, hc, _, hs, ht⟩
 ·omega
 ·cases hv
  refine ⟨g, rfl, hlo, Nat.lt_of_lt_of_le (blk_lt hb) hh, cur, hb, by rw [hs]; exact Nat.mul_le_mul_right 3 hc, fun j _ hj => ?_⟩
  have hq : p[j]? = some (p[j]'(by omega)) := List.getElem?_eq_getElem _
  have hat : (rowE p)[j * 3 + 1]? = some (p[j]'(by omega)).2 := flat_at equCells 3 (fun _ => rfl) p j 1 _ hq (by omega)
  rw [<- ht, List.getElem?_take_of_lt (by omega)] at hat
  refine ⟨_, by rw [<- Array.getElem?_toList]; exact hat, stm_own (h.each _ (List.getElem_mem _)) (hf _ (List.getElem_mem _)) hh⟩
theorem sgl_own {w : World} {lo hi n c : Nat} {a : Option Addr} {xs : List Value} (h : w.ownsRow lo 9 1 (.slice a n c) n xs) (hh : w.heap.size <= hi) : SGl w lo hi a n := by
 intro h0
 rcases h.2 with ⟨hv, h0'⟩ | ⟨g, cap, cur, hv, hlo, hb, hc, _, hs, _⟩
 ·omega
 ·cases hv
  exact ⟨g, cur, rfl, hlo, Nat.lt_of_lt_of_le (blk_lt hb) hh, hb, by omega⟩
end Go.Proofs.YtogkchgjpflmjaaGreatDoor
/- spandrelkeep's Spoil, walked. -/
namespace Go.Proofs.YtogkchgjpflmjaaGreatDoor
open Go.ChangeShapes Go.WideShapes Go.ChangeAt Go.RowKit Go.Sort
set_option linter.unusedVariables false
set_option linter.unusedSimpArgs false
set_option maxRecDepth 100000
def FI (ta da : Option Addr) (r : Nat) (k : Nat) (T : TypeId) : Prop := T = 123 ∨ (T = 91 /\ ((0 < r /\ ta = some ⟨k, 0, none⟩) ∨ (1 < r /\ da = some ⟨k, 0, none⟩)))
def FE (k : Nat) (T : TypeId) : Prop := T = 123 ∨ T = 91 ∨ T = 101
theorem FI.up {ta da : Option Addr} {r : Nat} (k : Nat) (T : TypeId) (h : FI ta da r k T) : FI ta da (r + 1) k T := by
 rcases h with h | ⟨h, h2⟩
 ·exact .inl h
 ·refine .inr ⟨h, ?_⟩
  rcases h2 with h2 | h2
  ·exact .inl ⟨by omega, h2.2⟩
  ·exact .inr ⟨by omega, h2.2⟩
theorem row_cell {w : World} {g : Nat} {cur : Array Value} {T : TypeId} (hb : w.heap[g]? = some (.cells cur T (0, 0))) {m : Nat} (hm : m < cur.size) : ∃ v, w.cell? ⟨g, m, none⟩ = some v := ⟨cur[m], by rw [cell_of_row w g m cur T (0, 0) hb]; exact Array.getElem?_eq_getElem hm⟩
set_option maxHeartbeats 16000000 in
theorem spoil_any (ta da ea ga : Option Addr) (n1 tc n2 dc n3 ec n4 gc lo hi : Nat) (w : World) (b1 : n1 <= 1100000) (b2 : n2 <= 1100000) (b3 : n3 <= 1100000) (b4 : n4 <= 1100000)
  (hT : SRw w lo hi 91 10 7 ta n1 0) (hD : SRw w lo hi 91 10 7 da n2 0) (hE : SRw w lo hi 101 3 1 ea n3 0) (hG : SGl w lo hi ga n4) (hne : ∀ g, ta = some ⟨g, 0, none⟩ -> da ≠ some ⟨g, 0, none⟩) (hh : hi <= w.heap.size) :
  Calls Tryz.prog 28 #[.agg #[.slice ta n1 tc, .slice da n2 dc, .slice ea n3 ec, .slice ga n4 gc]] w fun e w' => e = .returned (.tuple #[]) /\ Spx lo hi (fun _ _ => True) w w' := by
 have hB2 : Below w.heap.size w ((w.alloc (.cells #[.slice ta n1 tc, .slice da n2 dc, .slice ea n3 ec, .slice ga n4 gc] 26)).alloc (.cells #[.slice ta n1 tc, .slice da n2 dc] 22)) := (below_alloc w _).alloc (by simp) _
 have hbox := (two_rows' w #[.slice ta n1 tc, .slice da n2 dc, .slice ea n3 ec, .slice ga n4 gc] #[.slice ta n1 tc, .slice da n2 dc] 26 22).1
 have hlst := (two_rows' w #[.slice ta n1 tc, .slice da n2 dc, .slice ea n3 ec, .slice ga n4 gc] #[.slice ta n1 tc, .slice da n2 dc] 26 22).2
 obtain ⟨W2, hW2⟩ : ∃ W2, ((w.alloc (.cells #[.slice ta n1 tc, .slice da n2 dc, .slice ea n3 ec, .slice ga n4 gc] 26)).alloc (.cells #[.slice ta n1 tc, .slice da n2 dc] 22)) = W2 := ⟨_, rfl⟩
 rw [hW2] at hB2 hbox hlst
 have hK : Hid (∀ F W, Spx lo hi F W2 W -> (W.cell? ⟨w.heap.size, 0, none⟩ = some (.slice ta n1 tc) /\ W.cell? ⟨w.heap.size, 1, none⟩ = some (.slice da n2 dc) /\ W.cell? ⟨w.heap.size, 2, none⟩ = some (.slice ea n3 ec) /\ W.cell? ⟨w.heap.size, 3, none⟩ = some (.slice ga n4 gc)) /\ W.cell? ⟨w.heap.size + 1, 0, none⟩ = some (.slice ta n1 tc) /\ W.cell? ⟨w.heap.size + 1, 1, none⟩ = some (.slice da n2 dc)) := fun F W hs => by
  have h1 := (hs.out _ (blk_lt hbox) (.inr hh)).trans hbox
  have h2 := (hs.out _ (blk_lt hlst) (.inr (by omega))).trans hlst
  exact ⟨four_read h1, (cell_blockT h2 0).trans rfl, (cell_blockT h2 1).trans rfl⟩
 have hT2 : Hid (SRw W2 lo hi 91 10 7 ta n1 0) := hT.keep (spx_below (F := fun _ _ => False) hB2) (fun _ _ h => h)
 have hD2 : Hid (SRw W2 lo hi 91 10 7 da n2 0) := hD.keep (spx_below (F := fun _ _ => False) hB2) (fun _ _ h => h)
 have hE2 : Hid (SRw W2 lo hi 101 3 1 ea n3 0) := hE.keep (spx_below (F := fun _ _ => False) hB2) (fun _ _ h => h)
 have hG2 : Hid (SGl W2 lo hi ga n4) := hG.keep (spx_below (F := fun _ _ => False) hB2)
 have hneH := Hid.intro hne
 have hBH := Hid.intro hB2
 clear hT hD hE hG hne hB2 hbox hlst
 go_enter Tryz.func28, Tryz.ntmps28
 go_wp2
 all_goals first | omega | skip
 generalize ((w.alloc (.cells #[.slice ta n1 tc, .slice da n2 dc, .slice ea n3 ec, .slice ga n4 gc] 26)).alloc (.cells #[.slice ta n1 tc, .slice da n2 dc] 22)) = W9 at *
 subst hW2
 go_loopw [15] (fun v15 wr => ∃ r : Nat, r <= 2 /\ v15 = .int .i64 (r : Int) /\ Hid (Spx lo hi (FI ta da r) W9 wr)) (fun v15 wr => 2 - (intOf v15).toNat)
 case atStart => exact ⟨0, by omega, rfl, Spx.refl _ _ _ _⟩
 case round =>
  obtain ⟨r, hr, rfl, hS⟩ := hrel
  by_cases hr2 : r < 2
  ·obtain ⟨a, n, c, hcell, hrow, hbn, hFn⟩ : ∃ a n c, wr.cell? ⟨w.heap.size + 1, r, none⟩ = some (.slice a n c) /\ Hid (SRw wr lo hi 91 10 7 a n 0) /\ n <= 1100000 /\ Hid (∀ g, a = some ⟨g, 0, none⟩ -> FI ta da (r + 1) g 91) := by
    have hk := hK.out _ _ hS.out
    have : r = 0 ∨ r = 1 := by omega
    rcases this with rfl | rfl
    ·exact ⟨ta, n1, tc, hk.2.1, hT2.out.keep hS.out (fun g hg h => by rcases h with h | ⟨_, h | h⟩ <;> first | (exact absurd h (by decide)) | omega), b1, fun g hg => .inr ⟨rfl, .inl ⟨by omega, hg⟩⟩⟩
    ·exact ⟨da, n2, dc, hk.2.2, hD2.out.keep hS.out (fun g hg h => by rcases h with h | ⟨_, h | h⟩ <;> first | (exact absurd h (by decide)) | (exact hneH.out g h.2 hg) | omega), b2, fun g hg => .inr ⟨rfl, .inr ⟨by omega, hg⟩⟩⟩
   have hS1 : Hid (Spx lo hi (FI ta da (r + 1)) W9 wr) := hS.out.mono (fun k T h => h.up k T)
   have r0 : (0 : Int) <= (r : Int) := by omega
   have r1 : (r : Int) < 2 := by omega
   clear hS
   go_wp2
   all_goals first | omega | skip
   go_loopw [4] (fun v4 wq => ∃ i : Nat, i <= n /\ v4 = .int .i64 (i : Int) /\ Hid (Spx lo hi (FI ta da (r + 1)) W9 wq) /\ Hid (SRw wq lo hi 91 10 7 a n i)) (fun v4 wq => n - (intOf v4).toNat)
   case atStart => exact ⟨0, by omega, rfl, hS1, hrow⟩
   case round =>
    obtain ⟨i, hi', rfl, hS2, hR⟩ := hrel
    by_cases hlt : i < n
    ·obtain ⟨g, ha, g1, g2, hM⟩ := hR.out hlt
     subst ha
     have hM' := Hid.intro hM
     obtain ⟨cur, hb, hl, hj⟩ := hM
     obtain ⟨v, hv, hTm⟩ := hj i (Nat.le_refl _) hlt
     have hTm' := Hid.intro hTm
     obtain ⟨ta2, tn, tc2, hve, htn, _⟩ := hTm
     subst hve
     have c7 : wr.cell? ⟨g, i * 10 + 7, none⟩ = some (.slice ta2 tn tc2) := (cell_of_row wr g _ cur 91 (0, 0) hb).trans hv
     have hFg := hFn.out g rfl
     have hsz : i * 10 + 10 <= cur.size := by omega
     have i0 : (0 : Int) <= (i : Int) := by omega
     have i1 : (i : Int) < (n : Int) := by omega
     replace hb := Hid.intro hb
     have hvH := Hid.intro hv
     clear hj hv hl hR hrow hS1 hcell
     go_wp2
     all_goals first | omega | skip
     obtain ⟨wq, hwq⟩ : ∃ wq, wr = wq := ⟨_, rfl⟩
     rw [hwq] at hS2 hM' hb c7 hTm' ⊢
     clear hwq
     go_loopw [5] (fun v5 wz => ∃ k : Nat, k <= tn /\ v5 = .int .i64 (k : Int) /\ Hid (Spx lo hi (fun _ T => T = 123) wq wz)) (fun v5 wz => tn - (intOf v5).toNat)
     case atStart => exact ⟨0, by omega, rfl, Spx.refl _ _ _ _⟩
     case round =>
      obtain ⟨k, hk, rfl, hS3⟩ := hrel
      have hbz := (hS3.out.far g cur 91 hb.out (by decide)).trans hb.out
      clear c7
      have c7 : wr.cell? ⟨g, i * 10 + 7, none⟩ = some (.slice ta2 tn tc2) := (cell_of_row wr g _ cur 91 (0, 0) hbz).trans hvH.out
      by_cases hk2 : k < tn
      ·obtain ⟨a3, n3', c3, he3, _, hgo⟩ := hTm'.out.keep hS3.out
       cases he3
       obtain ⟨gt, ct, hat, t1, t2, tb, tl⟩ := hgo (by omega)
       subst hat
       obtain ⟨y0, e0⟩ := row_cell tb (m := k * 2) (by omega)
       obtain ⟨y1, e1⟩ := row_cell tb (m := k * 2 + 1) (by omega)
       have f0 := frozen_of_row wr gt (k * 2) ct 123 tb
       have f1 := frozen_of_row wr gt (k * 2 + 1) ct 123 tb
       have k0 : (0 : Int) <= (k : Int) := by omega
       have k1 : (k : Int) < (tn : Int) := by omega
       have hset : Hid (∀ y z, Spx lo hi (fun _ T => T = 123) wq ((wr.setCell ⟨gt, k * 2, none⟩ y).setCell ⟨gt, k * 2 + 1, none⟩ z)) := fun y z => hS3.out.trans ((Spx.set (F := fun _ T => T = 123) tb t1 t2 rfl (k * 2) y).trans (Spx.set (F := fun _ T => T = 123) (row_set tb (k * 2) y).1 t1 t2 rfl (k * 2 + 1) z))
       clear hgo tb tl hbz
       go_wp2
       all_goals first | omega | skip
       go_roundw
       case rel => exact ⟨k + 1, by omega, by go_num, hset.out _ _⟩
       case measure => simp [intOf]; omega
      ·have hin : tn = k := by omega
       subst hin
       have k2 : ¬ ((tn : Int) < (tn : Int)) := by omega
       obtain ⟨y0, e0⟩ := row_cell hbz (m := i * 10) (by omega)
       obtain ⟨y1, e1⟩ := row_cell hbz (m := i * 10 + 1) (by omega)
       obtain ⟨y2, e2⟩ := row_cell hbz (m := i * 10 + 2) (by omega)
       obtain ⟨y3, e3⟩ := row_cell hbz (m := i * 10 + 3) (by omega)
       obtain ⟨y4, e4⟩ := row_cell hbz (m := i * 10 + 4) (by omega)
       obtain ⟨y5, e5⟩ := row_cell hbz (m := i * 10 + 5) (by omega)
       obtain ⟨y6, e6⟩ := row_cell hbz (m := i * 10 + 6) (by omega)
       obtain ⟨y8, e8⟩ := row_cell hbz (m := i * 10 + 8) (by omega)
       obtain ⟨y9, e9⟩ := row_cell hbz (m := i * 10 + 9) (by omega)
       have fz := fun m => frozen_of_row wr g m cur 91 hbz
       have hend := Hid.intro (spx_row (F := FI ta da (r + 1)) g1 g2 hFg [.int .i64 (-9), .string ⟨#[]⟩, .int .i64 0, .int .i64 0, .int .i64 0, .int .i32 0, .int .i64 0, .slice none 0 0, .int .u32 0, .int .i64 0] (w := wr) (i * 10) (hM'.out.keep hS3.out (by decide)).up (by simp; omega))
       have hto : Hid (Spx lo hi (FI ta da (r + 1)) W9 wr) := hS2.out.trans (hS3.out.mono (fun k T h => .inl h))
       clear hbz hS3
       go_wp2
       all_goals first | omega | skip
       go_roundw
       case rel => exact ⟨i + 1, by omega, by go_num, hto.out.trans hend.out.2, fun _ => ⟨g, rfl, g1, g2, hend.out.1⟩⟩
       case measure => simp [intOf]; omega
    ·have hin : n = i := by omega
     subst hin
     have k2 : ¬ ((n : Int) < (n : Int)) := by omega
     clear hR hrow hS1 hcell
     go_wp2
     all_goals first | omega | skip
     go_roundw
     case rel => exact ⟨r + 1, by omega, by go_num, hS2⟩
     case measure => simp [intOf]; omega
  ·have hSE : Hid (Spx lo hi FE W9 wr) := hS.out.mono (fun k T h => by rcases h with h | h; exact .inl h; exact .inr (.inl h.1))
   have hr3 : r = 2 := by omega
   subst hr3
   have hREq : Hid (SRw wr lo hi 101 3 1 ea n3 0) := hE2.out.keep hS.out (fun g hg h => by rcases h with h | ⟨h, _⟩ <;> exact absurd h (by decide))
   clear hS
   go_wp2
   all_goals first | omega | skip
   go_loopw [6] (fun v6 wq => ∃ i : Nat, i <= n3 /\ v6 = .int .i64 (i : Int) /\ Hid (Spx lo hi FE W9 wq) /\ Hid (SRw wq lo hi 101 3 1 ea n3 i)) (fun v6 wq => n3 - (intOf v6).toNat)
   case atStart => exact ⟨0, by omega, rfl, hSE, hREq⟩
   case round =>
    clear hSE hREq
    obtain ⟨i, hi', rfl, hS2, hR⟩ := hrel
    obtain ⟨⟨c0, c1, c2, c3⟩, _, _⟩ := hK.out _ _ hS2.out
    clear c0 c1 c3
    by_cases hlt : i < n3
    ·obtain ⟨g, ha, g1, g2, hM⟩ := hR.out hlt
     subst ha
     have hM' := Hid.intro hM
     obtain ⟨cur, hb, hl, hj⟩ := hM
     obtain ⟨v, hv, hTm⟩ := hj i (Nat.le_refl _) hlt
     have hTm' := Hid.intro hTm
     obtain ⟨ta2, tn, tc2, hve, htn, _⟩ := hTm
     subst hve
     have c7 : wr.cell? ⟨g, i * 3 + 1, none⟩ = some (.slice ta2 tn tc2) := (cell_of_row wr g _ cur 101 (0, 0) hb).trans hv
     have hsz : i * 3 + 3 <= cur.size := by omega
     have i0 : (0 : Int) <= (i : Int) := by omega
     have i1 : (i : Int) < (n3 : Int) := by omega
     replace hb := Hid.intro hb
     have hvH := Hid.intro hv
     clear hj hv hl hR
     go_wp2
     all_goals first | omega | skip
     obtain ⟨wq, hwq⟩ : ∃ wq, wr = wq := ⟨_, rfl⟩
     rw [hwq] at hS2 hM' hb c7 hTm' c2 ⊢
     clear hwq
     go_loopw [7] (fun v7 wz => ∃ k : Nat, k <= tn /\ v7 = .int .i64 (k : Int) /\ Hid (Spx lo hi (fun _ T => T = 123) wq wz)) (fun v7 wz => tn - (intOf v7).toNat)
     case atStart => exact ⟨0, by omega, rfl, Spx.refl _ _ _ _⟩
     case round =>
      obtain ⟨k, hk, rfl, hS3⟩ := hrel
      have hbz := (hS3.out.far g cur 101 hb.out (by decide)).trans hb.out
      clear c7 c2
      have hto : Hid (Spx lo hi FE W9 wr) := hS2.out.trans (hS3.out.mono (fun k T h => .inl h))
      obtain ⟨⟨c0, c1, c2, c3⟩, _, _⟩ := hK.out _ _ hto.out
      clear c0 c1 c3
      have c7 : wr.cell? ⟨g, i * 3 + 1, none⟩ = some (.slice ta2 tn tc2) := (cell_of_row wr g _ cur 101 (0, 0) hbz).trans hvH.out
      by_cases hk2 : k < tn
      ·obtain ⟨a3, n3', c3, he3, _, hgo⟩ := hTm'.out.keep hS3.out
       cases he3
       obtain ⟨gt, ct, hat, t1, t2, tb, tl⟩ := hgo (by omega)
       subst hat
       obtain ⟨y0, e0⟩ := row_cell tb (m := k * 2) (by omega)
       obtain ⟨y1, e1⟩ := row_cell tb (m := k * 2 + 1) (by omega)
       have f0 := frozen_of_row wr gt (k * 2) ct 123 tb
       have f1 := frozen_of_row wr gt (k * 2 + 1) ct 123 tb
       have k0 : (0 : Int) <= (k : Int) := by omega
       have k1 : (k : Int) < (tn : Int) := by omega
       have hset : Hid (∀ y z, Spx lo hi (fun _ T => T = 123) wq ((wr.setCell ⟨gt, k * 2, none⟩ y).setCell ⟨gt, k * 2 + 1, none⟩ z)) := fun y z => hS3.out.trans ((Spx.set (F := fun _ T => T = 123) tb t1 t2 rfl (k * 2) y).trans (Spx.set (F := fun _ T => T = 123) (row_set tb (k * 2) y).1 t1 t2 rfl (k * 2 + 1) z))
       clear hgo tb tl hbz hto
       go_wp2
       all_goals first | omega | skip
       go_roundw
       case rel => exact ⟨k + 1, by omega, by go_num, hset.out _ _⟩
       case measure => simp [intOf]; omega
      ·have hin : tn = k := by omega
       subst hin
       have k2 : ¬ ((tn : Int) < (tn : Int)) := by omega
       obtain ⟨y0, e0⟩ := row_cell hbz (m := i * 3) (by omega)
       obtain ⟨y2, e2⟩ := row_cell hbz (m := i * 3 + 2) (by omega)
       have fz := fun m => frozen_of_row wr g m cur 101 hbz
       have hend := Hid.intro (spx_row (F := FE) g1 g2 (.inr (.inr rfl)) [.string ⟨#[115, 112, 111, 105, 108, 116]⟩, .slice none 0 0, .int .u32 0] (w := wr) (i * 3) (hM'.out.keep hS3.out (by decide)).up (by simp; omega))
       clear hbz hS3
       go_wp2
       all_goals first | omega | skip
       go_roundw
       case rel => exact ⟨i + 1, by omega, by go_num, hto.out.trans hend.out.2, fun _ => ⟨g, rfl, g1, g2, hend.out.1⟩⟩
       case measure => simp [intOf]; omega
    ·have hin : n3 = i := by omega
     subst hin
     have k2 : ¬ ((n3 : Int) < (n3 : Int)) := by omega
     have hto : Hid (Spx lo hi (fun _ _ => True) W9 wr) := hS2.out.mono (fun _ _ _ => trivial)
     clear hR hS2
     go_wp2
     all_goals first | omega | skip
     clear c2
     go_loopw [8] (fun v8 wq => ∃ i : Nat, i <= n4 /\ v8 = .int .i64 (i : Int) /\ Hid (Spx lo hi (fun _ _ => True) W9 wq)) (fun v8 wq => n4 - (intOf v8).toNat)
     case atStart => exact ⟨0, by omega, rfl, hto⟩
     case round =>
      clear hto
      obtain ⟨i, hi2, rfl, hS2⟩ := hrel
      obtain ⟨⟨c0, c1, c2, c3⟩, _, _⟩ := hK.out _ _ hS2.out
      clear c0 c1 c2
      by_cases hlt4 : i < n4
      ·obtain ⟨g, cur, ha, g1, g2, hb, hl⟩ := hG2.out.keep hS2.out (by omega)
       subst ha
       obtain ⟨y0, e0⟩ := row_cell hb (m := i) (by omega)
       have f0 := frozen_of_row wr g i cur 9 hb
       have i0 : (0 : Int) <= (i : Int) := by omega
       have i1 : (i : Int) < (n4 : Int) := by omega
       have hset : Hid (∀ y, Spx lo hi (fun _ _ => True) W9 (wr.setCell ⟨g, i, none⟩ y)) := fun y => hS2.out.trans (Spx.set (F := fun _ _ => True) hb g1 g2 trivial i y)
       clear hb hl
       go_wp2
       all_goals first | omega | skip
       go_roundw
       case rel => exact ⟨i + 1, by omega, by go_num, hset.out _⟩
       case measure => simp [intOf]; omega
      ·have hin : n4 = i := by omega
       subst hin
       have k3 : ¬ ((n4 : Int) < (n4 : Int)) := by omega
       go_wp2
       all_goals first | omega | skip
       go_end0
       exact ⟨rfl, (spx_below hBH.out).trans hS2.out⟩
end Go.Proofs.YtogkchgjpflmjaaGreatDoor
namespace Go.Proofs.YtogkchgjpflmjaaGreatDoor
open Go.ChangeShapes Go.WideShapes Go.ChangeAt Go.RowKit Go.Sort
set_option linter.unusedVariables false
set_option linter.unusedSimpArgs false
set_option maxRecDepth 100000
theorem ItOwn.itSrc {lo : Nat} {w : World} {a : Option Addr} {n c : Nat} {p : List (Itm × Value)} (h : ItOwn lo w (.slice a n c) p) : ItSrc w a (p.map (·.1)) := by
 rcases h.row.2 with ⟨hv, h0⟩ | ⟨g, cap, cur, hv, _, hg, _⟩
 ·exact .inl (by rw [List.length_eq_zero_iff.1 h0]; rfl)
 ·injection hv with hv1 hv2 hv3
  subst hv1
  refine .inr ⟨g, 0, rfl, (Array.getElem?_eq_some_iff.1 hg).1, fun i x hx => ?_⟩
  rw [List.getElem?_map] at hx
  obtain ⟨q, hq, rfl⟩ := Option.map_eq_some_iff.1 hx
  have hlt := (List.getElem?_eq_some_iff.1 hq).1
  have ho := h.each q (List.mem_of_getElem? hq)
  obtain ⟨va, vc, hva⟩ := own_slice ho
  have hrow := h.row
  rw [hv2] at hrow
  have key : ∀ j, j < 10 -> w.cell? ⟨g, 0 + i * 10 + j, none⟩ = (itmCells q.1 q.2).toList[j]? := fun j hj => by
   rw [Nat.zero_add, hrow.cellAt _ (by omega)]
   exact flat_at (fun q : Itm × Value => (itmCells q.1 q.2).toList) 10 (fun _ => rfl) p i j q hq hj
  rw [hva] at key ho
  exact ⟨va, vc, ⟨key 0 (by omega), key 1 (by omega), key 2 (by omega), key 3 (by omega), key 4 (by omega), key 5 (by omega), key 6 (by omega), key 7 (by omega), key 8 (by omega), key 9 (by omega)⟩, own_src ho⟩
theorem EqOwn.eqSrc {lo : Nat} {w : World} {a : Option Addr} {n c : Nat} {p : List ((List UInt8 × Lin) × Value)} (h : EqOwn lo w (.slice a n c) p) : EqSrc w a (p.map (·.1)) := by
 rcases h.row.2 with ⟨hv, h0⟩ | ⟨g, cap, cur, hv, _, hg, _⟩
 ·exact .inl (by rw [List.length_eq_zero_iff.1 h0]; rfl)
 ·injection hv with hv1 hv2 hv3
  subst hv1
  refine .inr ⟨g, 0, rfl, (Array.getElem?_eq_some_iff.1 hg).1, fun i x hx => ?_⟩
  rw [List.getElem?_map] at hx
  obtain ⟨q, hq, rfl⟩ := Option.map_eq_some_iff.1 hx
  have hlt := (List.getElem?_eq_some_iff.1 hq).1
  have ho := h.each q (List.mem_of_getElem? hq)
  obtain ⟨va, vc, hva⟩ := own_slice ho
  have hrow := h.row
  rw [hv2] at hrow
  have key : ∀ j, j < 3 -> w.cell? ⟨g, 0 + i * 3 + j, none⟩ = (equCells q)[j]? := fun j hj => by
   rw [Nat.zero_add, hrow.cellAt _ (by omega)]
   exact flat_at equCells 3 (fun _ => rfl) p i j q hq hj
  have k1 : w.cell? ⟨g, 0 + i * 3 + 1, none⟩ = some q.2 := key 1 (by omega)
  rw [hva] at k1 ho
  exact ⟨va, vc, (key 0 (by omega)).trans rfl, k1, (key 2 (by omega)).trans rfl, own_src ho⟩
structure UKp (lo : Nat) (w : World) (ta : Option Addr) (tc : Nat) (da : Option Addr) (dc : Nat) (ea : Option Addr) (ec : Nat) (ga : Option Addr) (gc : Nat) (U : UVal) (pt pd : List (Itm × Value)) (pe : List ((List UInt8 × Lin) × Value)) : Prop where
 text : ItOwn lo w (.slice ta U.text.length tc) pt
 data : ItOwn lo w (.slice da U.data.length dc) pd
 equs : EqOwn lo w (.slice ea U.equs.length ec) pe
 globs : w.ownsRow lo 9 1 (.slice ga U.globs.length gc) U.globs.length (U.globs.map encStr)
 et : pt.map (·.1) = U.text
 ed : pd.map (·.1) = U.data
 ee : pe.map (·.1) = U.equs
theorem UKp.below {lo : Nat} {w w' : World} {ta : Option Addr} {tc : Nat} {da : Option Addr} {dc : Nat} {ea : Option Addr} {ec : Nat} {ga : Option Addr} {gc : Nat} {U : UVal} {pt pd : List (Itm × Value)} {pe : List ((List UInt8 × Lin) × Value)} (h : UKp lo w ta tc da dc ea ec ga gc U pt pd pe) (hb : Below w.heap.size w w') : UKp lo w' ta tc da dc ea ec ga gc U pt pd pe :=
 ⟨h.text.below hb, h.data.below hb, h.equs.below hb, own_keptB h.globs hb, h.et, h.ed, h.ee⟩
theorem UKp.inn {lo : Nat} {w : World} {ta : Option Addr} {tc : Nat} {da : Option Addr} {dc : Nat} {ea : Option Addr} {ec : Nat} {ga : Option Addr} {gc : Nat} {U : UVal} {pt pd : List (Itm × Value)} {pe : List ((List UInt8 × Lin) × Value)} (h : UKp lo w ta tc da dc ea ec ga gc U pt pd pe) : UnitIn w ta da ea ga U :=
 ⟨h.et ▸ h.text.itIn, h.ed ▸ h.data.itIn, h.ee ▸ h.equs.eqIn, own_stIn h.globs⟩
theorem UKp.src {lo : Nat} {w : World} {ta : Option Addr} {tc : Nat} {da : Option Addr} {dc : Nat} {ea : Option Addr} {ec : Nat} {ga : Option Addr} {gc : Nat} {U : UVal} {pt pd : List (Itm × Value)} {pe : List ((List UInt8 × Lin) × Value)} (h : UKp lo w ta tc da dc ea ec ga gc U pt pd pe) : UnitSrc w ta da ea ga gc U :=
 ⟨h.et ▸ h.text.itSrc, h.ed ▸ h.data.itSrc, h.ee ▸ h.equs.eqSrc, own_src h.globs⟩
theorem own_spx {lo hi k : Nat} {F : Nat -> TypeId -> Prop} {w w' : World} (hs : Spx lo hi F w w') (hk : hi <= k) {T : TypeId} {sz : Nat} {v : Value} {n : Nat} {xs : List Value} (h : w.ownsRow k T sz v n xs) : w'.ownsRow k T sz v n xs := by
 refine ⟨h.1, ?_⟩
 rcases h.2 with h | ⟨g, cap, cu, h1, hb, hh, hr⟩
 ·exact .inl h
 ·exact .inr ⟨g, cap, cu, h1, hb, (hs.out g (blk_lt hh) (.inr (by omega))).trans hh, hr⟩
theorem UKp.spx {lo hi k : Nat} {F : Nat -> TypeId -> Prop} {w w' : World} (hs : Spx lo hi F w w') (hk : hi <= k) {ta : Option Addr} {tc : Nat} {da : Option Addr} {dc : Nat} {ea : Option Addr} {ec : Nat} {ga : Option Addr} {gc : Nat} {U : UVal} {pt pd : List (Itm × Value)} {pe : List ((List UInt8 × Lin) × Value)} (h : UKp k w ta tc da dc ea ec ga gc U pt pd pe) : UKp k w' ta tc da dc ea ec ga gc U pt pd pe :=
 ⟨⟨own_spx hs hk h.text.row, fun q hq => own_spx hs hk (h.text.each q hq)⟩, ⟨own_spx hs hk h.data.row, fun q hq => own_spx hs hk (h.data.each q hq)⟩, ⟨own_spx hs hk h.equs.row, fun q hq => own_spx hs hk (h.equs.each q hq)⟩, own_spx hs hk h.globs, h.et, h.ed, h.ee⟩
theorem below_spx {lo hi : Nat} {F : Nat -> TypeId -> Prop} {w w' : World} (hs : Spx lo hi F w w') (hl : lo <= w.heap.size) : Below lo w w' := ⟨hs.os, hs.tape, hs.output, hs.size, fun k hk => hs.out k (by omega) (.inl hk)⟩
theorem copy_kept (ta : Option Addr) (tc : Nat) (da : Option Addr) (dc : Nat) (ea : Option Addr) (ec : Nat) (ga : Option Addr) (gc : Nat) (U : UVal) (hu : HeldU U) (w : World) (hS : UnitSrc w ta da ea ga gc U) :
  Calls Tryz.prog 27 #[.agg (unitV ta tc da dc ea ec ga gc U)] w fun e w' => Below w.heap.size w w' /\ ∃ ta tc da dc ea ec ga gc pt pd pe, e = .returned (.agg (unitV ta tc da dc ea ec ga gc U)) /\ UKp w.heap.size w' ta tc da dc ea ec ga gc U pt pd pe := by
 refine (copyUnit_any ta tc da dc ea ec ga gc U hu w hS).mono fun e w' ⟨hb, tv, dv, ev, gv, pt, pd, pe, he, hc⟩ => ?_
 have m1 : U.text.length = pt.length := by rw [<- hc.et, List.length_map]
 have m2 : U.data.length = pd.length := by rw [<- hc.ed, List.length_map]
 have m3 : U.equs.length = pe.length := by rw [<- hc.ee, List.length_map]
 obtain ⟨a1, c1, rfl⟩ := own_slice hc.text.row
 obtain ⟨a2, c2, rfl⟩ := own_slice hc.data.row
 obtain ⟨a3, c3, rfl⟩ := own_slice hc.equs.row
 obtain ⟨a4, c4, rfl⟩ := own_slice hc.globs
 refine ⟨hb, a1, c1, a2, c2, a3, c3, a4, c4, pt, pd, pe, ?_, ⟨?_, ?_, ?_, hc.globs, hc.et, hc.ed, hc.ee⟩⟩
 ·rw [he]
  unfold unitV
  rw [m1, m2, m3]
 ·rw [m1]; exact hc.text
 ·rw [m2]; exact hc.data
 ·rw [m3]; exact hc.equs
theorem spoil_kept {lo hi : Nat} {w2 w : World} {ta : Option Addr} {tc : Nat} {da : Option Addr} {dc : Nat} {ea : Option Addr} {ec : Nat} {ga : Option Addr} {gc : Nat} {U : UVal} {pt pd : List (Itm × Value)} {pe : List ((List UInt8 × Lin) × Value)} (hu : HeldU U) (hne : ∀ g, ta = some ⟨g, 0, none⟩ -> da ≠ some ⟨g, 0, none⟩) (h : UKp lo w2 ta tc da dc ea ec ga gc U pt pd pe) (hh : hi = w2.heap.size) (hb : Below w2.heap.size w2 w) :
  Calls Tryz.prog 28 #[.agg (unitV ta tc da dc ea ec ga gc U)] w fun e w' => e = .returned (.tuple #[]) /\ Spx lo hi (fun _ _ => True) w w' := by
 have l1 : pt.length = U.text.length := by rw [<- h.et, List.length_map]
 have l2 : pd.length = U.data.length := by rw [<- h.ed, List.length_map]
 have l3 : pe.length = U.equs.length := by rw [<- h.ee, List.length_map]
 have hs : Spx lo hi (fun _ _ => False) w2 w := spx_below hb
 refine spoil_any ta da ea ga _ tc _ dc _ ec _ gc lo hi w hu.text.1 hu.data.1 hu.equs.1 hu.globs ?_ ?_ ?_ ?_ hne (by rw [hh]; exact hb.size)
 ·exact (srw_items h.text l1 (fun q hq => by have := (hu.text.2 q.1 (by rw [<- h.et]; exact List.mem_map_of_mem hq)).few; omega) (by omega)).keep hs (fun _ _ x => x)
 ·exact (srw_items h.data l2 (fun q hq => by have := (hu.data.2 q.1 (by rw [<- h.ed]; exact List.mem_map_of_mem hq)).few; omega) (by omega)).keep hs (fun _ _ x => x)
 ·exact (srw_equs h.equs l3 (fun q hq => by have := (hu.equs.2 q.1 (by rw [<- h.ee]; exact List.mem_map_of_mem hq)).few; omega) (by omega)).keep hs (fun _ _ x => x)
 ·exact (sgl_own h.globs (by omega)).keep hs
def ErrIs (ok : Bool) (er : Value) : Prop := if ok then er = .nilIface else ∃ q, er = .iface 51 (.pointer (some ⟨q, 0, none⟩))
theorem empty_right : RightN ⟨[], [], [], []⟩ 0 := by
 refine .inr ⟨by decide, .inl ⟨⟨rfl, rfl, rfl, ?_, ?_⟩, rfl⟩⟩
 ·intro h
  simp [Twice, UVal.names, labN, sortS] at h
 ·simp [GlobOk]
theorem asb_two (l : List UInt8) : ∃ (U : UVal) (ok : Bool), HeldU U /\ RightN U 0 /\ (∀ s ∈ U.names, s.length <= 1100000) /\ U.names.length <= 20000 /\ ∀ w, Env w ->
  Calls Tryz.prog 9 #[.string (str l)] w fun e w' => Below w.heap.size w w' /\ ∃ ta tc da dc ea ec ga gc er pt pd pe, e = .returned (.tuple #[.agg (unitV ta tc da dc ea ec ga gc U), er]) /\ ErrIs ok er /\ UKp w.heap.size w' ta tc da dc ea ec ga gc U pt pd pe /\ ∀ g, ta = some ⟨g, 0, none⟩ -> da ≠ some ⟨g, 0, none⟩ := by
 cases hA : asmF l with
 | error f =>
  refine ⟨⟨[], [], [], []⟩, false, ⟨⟨by decide, fun x hx => by cases hx⟩, ⟨by decide, fun x hx => by cases hx⟩, ⟨by decide, fun x hx => by cases hx⟩, by decide⟩, empty_right, fun s hs => absurd hs (by simp [UVal.names, labN]), by decide, fun w hE => ?_⟩
  refine (asb_bad hA w hE).mono fun e w' ⟨hb, q, he, _⟩ => ?_
  refine ⟨hb, none, 0, none, 0, none, 0, none, 0, _, [], [], [], he, ⟨q, rfl⟩, ⟨ItOwn.start _ _, ItOwn.start _ _, EqOwn.start _ _, World.ownsRow_nil _ _ _ _, rfl, rfl, rfl⟩, fun g hg => by cases hg⟩
 | ok A =>
  obtain ⟨hG, hB, hU⟩ := asmF_ok hA
  have hh := asm_held hG hB (by omega)
  refine ⟨uvA A, true, hh, (asm_right hG hB (by omega) hU).2, ?_, ?_, fun w hE => ?_⟩
  ·intro s hs
   unfold UVal.names labN at hs
   rcases List.mem_append.1 hs with hs | hs
   ·rcases List.mem_append.1 hs with hs | hs
    ·obtain ⟨x, hx, rfl⟩ := List.mem_map.1 hs
     exact (hh.text.2 x (List.mem_filter.1 hx |>.1)).name
    ·obtain ⟨x, hx, rfl⟩ := List.mem_map.1 hs
     exact (hh.data.2 x (List.mem_filter.1 hx |>.1)).name
   ·obtain ⟨x, hx, rfl⟩ := List.mem_map.1 hs
    exact (hh.equs.2 x hx).name
  ·have h1 := labN_len (uvA A).text
   have h2 := labN_len (uvA A).data
   have h3 : (uvA A).text.length + (uvA A).data.length <= 8192 := hB.few
   have h4 : (uvA A).equs.length <= 4096 := hB.equs
   unfold UVal.names
   rw [List.length_append, List.length_append, List.length_map]
   omega
  ·have ha := assemble_any l w hE.tab hE.err
   rw [hA] at ha
   refine ha.mono fun e w' ⟨h1, tv, dv, ev, gv, pt, pd, pe, h2, h3⟩ => ?_
   obtain ⟨a1, c1, rfl⟩ := own_slice h3.text.row
   obtain ⟨a2, c2, rfl⟩ := own_slice h3.data.row
   obtain ⟨a3, c3, rfl⟩ := own_slice h3.equs.row
   obtain ⟨a4, c4, rfl⟩ := own_slice h3.globs
   have e1 : (uvA A).text = pt.map (·.1) := h3.et
   have e2 : (uvA A).data = pd.map (·.1) := h3.ed
   have e3 : (uvA A).equs = pe.map (·.1) := h3.ee
   have e4 : (uvA A).globs = globF A := rfl
   have m1 : (uvA A).text.length = pt.length := by rw [e1, List.length_map]
   have m2 : (uvA A).data.length = pd.length := by rw [e2, List.length_map]
   have m3 : (uvA A).equs.length = pe.length := by rw [e3, List.length_map]
   refine ⟨h1, a1, c1, a2, c2, a3, c3, a4, c4, .nilIface, pt, pd, pe, ?_, rfl, ⟨?_, ?_, ?_, h3.globs, e1.symm, e2.symm, e3.symm⟩, ?_⟩
   ·rw [h2]
    unfold unitV
    rw [m1, m2, m3, e4]
   ·rw [m1]; exact h3.text
   ·rw [m2]; exact h3.data
   ·rw [m3]; exact h3.equs
   ·rintro g rfl hd
    subst hd
    rcases h3.td with h | h
    ·cases h
    ·exact h rfl
end Go.Proofs.YtogkchgjpflmjaaGreatDoor
