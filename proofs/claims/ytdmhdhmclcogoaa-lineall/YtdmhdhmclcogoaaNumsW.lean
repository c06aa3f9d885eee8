/- The walk of LineNumbers. -/
import Derived.Test.YtdmhdhmclcogoaaAllIt
import Derived.Test.YtdmhdhmclcogoaaSameL
import Derived.RangeFuncFrom
namespace Go.Proofs.Ytdmhdhmclcogoaa
open Go.ChangeShapes Go.WideShapes Go.ChangeAt Go.RowKit Go.Shelf
set_option linter.unusedVariables false
set_option maxRecDepth 100000
attribute [local go_sem] Oper.semAt_some

theorem alloc_heapN {w : World} {g : Nat} {x : Obj} (h : w.heap[g]? = some x) (o : Obj) : (w.alloc o).heap[g]? = some x := ((below_alloc w o).block g (Array.getElem?_eq_some_iff.1 h).1).trans h

/-- what a cell holds, and it may be written -/
structure CI (W : World) (b k : Nat) (v : Value) : Prop where
  cell : W.cell? ⟨b, k, none⟩ = some v
  froz : W.frozen? ⟨b, k, none⟩ = false

theorem ci_of {W : World} {b k : Nat} {T : TypeId} {cur : Array Value} {v : Value} (h : W.heap[b]? = some (.cells cur T (0, 0))) (hv : cur[k]? = some v) : CI W b k v := ⟨by rw [cell_of_row _ _ _ _ _ _ h]; exact hv, frozen_of_row _ _ _ _ _ h⟩
theorem CI.set {W : World} {b k : Nat} {v0 : Value} (h : CI W b k v0) (v : Value) : CI (W.setCell ⟨b, k, none⟩ v) b k v := ⟨World.cell?_setCell_same' _ _ _ (by rw [h.cell]; rfl), by rw [World.frozen?_setCell]; exact h.froz⟩
theorem CI.other {W : World} {b k b' k' : Nat} {v v' : Value} (h : CI W b k v) (hb : b ≠ b') : CI (W.setCell ⟨b', k', none⟩ v') b k v :=
  ⟨(World.cell?_of_block (heap_setCell_other W ⟨b', k', none⟩ b v' hb)).trans h.cell, by rw [World.frozen?_setCell]; exact h.froz⟩
theorem CI.kept {A B : World} {row : Option Nat} {b k : Nat} {v : Value} (h : CI A b k v) (hg : A.grownBy B row) (hr : ∀ r, row = some r → ∃ o : Obj, A.heap[r]? = some o ∧ o.isCells = false) : CI B b k v := ⟨cell_kept h.cell hg hr, (frozen_kept h.cell hg hr).trans h.froz⟩
theorem CI.lt {W : World} {b k : Nat} {v : Value} (h : CI W b k v) : b < W.heap.size := World.block_lt_of_cell? W ⟨b, k, none⟩ h.cell
theorem CI.below {W W' : World} {b k B : Nat} {v : Value} (h : CI W b k v) (hb : Below B W W') (hB : b < B) : CI W' b k v := ⟨(hb.cell (p := ⟨b, k, none⟩) hB).trans h.cell, (World.frozen?_of_block (a := ⟨b, k, none⟩) (hb.block b hB)).trans h.froz⟩

/-- the texts that came, each with a stroke behind it -/
def accS (pre : List LnA) : ByteArray := pre.foldl (fun a x => a ++ x.1.2 ++ ⟨#[124]⟩) ⟨#[]⟩
theorem accS_snoc (pre : List LnA) (x : LnA) : accS (pre ++ [x]) = accS pre ++ x.1.2 ++ ⟨#[124]⟩ := by simp [accS]
theorem accS_size' (pre : List LnA) : ∀ a : ByteArray, (pre.foldl (fun a x => a ++ x.1.2 ++ ⟨#[124]⟩) a).size ≤ a.size + pre.length * 3001 := by
  induction pre with
  | nil => intro a; simp
  | cons x pre ih =>
    intro a
    have e1 : (⟨#[124]⟩ : ByteArray).size = 1 := rfl
    have hx := x.2
    have := ih (a ++ x.1.2 ++ ⟨#[124]⟩)
    rw [ByteArray.size_append, ByteArray.size_append, e1] at this
    rw [List.foldl_cons, List.length_cons]
    omega
theorem accS_size (pre : List LnA) : (accS pre).size ≤ pre.length * 3001 := by
  have := accS_size' pre ⟨#[]⟩
  have e0 : (⟨#[]⟩ : ByteArray).size = 0 := rfl
  rw [e0] at this
  unfold accS
  omega

theorem numbered_at (i : Nat) (ls : List (List UInt8)) (pre : List LnA) (x : LnA) (h : (pre ++ [x]) <+: numbered i ls) : x.1.1 = ((i + pre.length : Nat) : Int) ∧ ∃ l, ls[pre.length]? = some l ∧ x = mkA (i + pre.length) l := by
  induction pre generalizing i ls with
  | nil =>
    cases ls with
    | nil => obtain ⟨r, hr⟩ := h; simp [numbered] at hr
    | cons l ls =>
      obtain ⟨r, hr⟩ := h
      simp only [numbered, List.nil_append, List.singleton_append, List.cons.injEq] at hr
      rw [hr.1]
      exact ⟨rfl, l, rfl, rfl⟩
  | cons y pre ih =>
    cases ls with
    | nil => obtain ⟨r, hr⟩ := h; simp [numbered] at hr
    | cons l ls =>
      obtain ⟨r, hr⟩ := h
      simp only [numbered, List.cons_append, List.cons.injEq] at hr
      have := ih (i + 1) ls ⟨r, hr.2⟩
      rw [show i + 1 + pre.length = i + (y :: pre).length by simp; omega] at this
      simpa using this

theorem num_acc0 : accS (numbered 1 [[97], [], [98]]) = ⟨#[97, 124, 124, 98, 124]⟩ := by
  simp only [numbered]
  rfl

def badAt : Nat → ByteArray
  | 0 => ⟨#[97, 100, 100, 32, 44, 32, 114, 49]⟩
  | 1 => ⟨#[58, 32, 97, 100, 100]⟩
  | 2 => ⟨#[51]⟩
  | 3 => ⟨#[97, 58, 32, 98, 58, 32, 99]⟩
  | 4 => ⟨#[97, 32, 98, 32, 99, 58]⟩
  | _ => ⟨#[97, 100, 100, 32, 114, 49, 32, 36]⟩
def placeAt : Nat → Nat
  | 0 => 4
  | 1 => 0
  | 2 => 0
  | 3 => 4
  | 4 => 5
  | _ => 7

theorem bad_size (j : Nat) : (badAt j).size ≤ 8 := by
  unfold badAt
  split <;> decide

theorem bad_parse (j : Nat) (h : j < 6) : parseL (bs (badAt j)) = .error (placeAt j) := by
  have : j = 0 ∨ j = 1 ∨ j = 2 ∨ j = 3 ∨ j = 4 ∨ j = 5 := by omega
  rcases this with rfl | rfl | rfl | rfl | rfl | rfl
  · exact (parseL_ok (ts := [⟨1, [97, 100, 100], 0, 0⟩, ⟨3, [44], 0, 4⟩, ⟨1, [114, 49], 0, 6⟩]) (by rw [scan_eq 8 _ _ (by decide)]; kernel_rfl)).trans (by kernel_rfl)
  · exact (parseL_ok (ts := [⟨3, [58], 0, 0⟩, ⟨1, [97, 100, 100], 0, 2⟩]) (by rw [scan_eq 5 _ _ (by decide)]; kernel_rfl)).trans (by kernel_rfl)
  · exact (parseL_ok (ts := [⟨2, [51], 3, 0⟩]) (by rw [scan_eq 1 _ _ (by decide)]; kernel_rfl)).trans (by kernel_rfl)
  · exact (parseL_ok (ts := [⟨1, [97], 0, 0⟩, ⟨3, [58], 0, 1⟩, ⟨1, [98], 0, 3⟩, ⟨3, [58], 0, 4⟩, ⟨1, [99], 0, 6⟩]) (by rw [scan_eq 7 _ _ (by decide)]; kernel_rfl)).trans (by kernel_rfl)
  · exact (parseL_ok (ts := [⟨1, [97], 0, 0⟩, ⟨1, [98], 0, 2⟩, ⟨1, [99], 0, 4⟩, ⟨3, [58], 0, 5⟩]) (by rw [scan_eq 6 _ _ (by decide)]; kernel_rfl)).trans (by kernel_rfl)
  · exact parseL_bad (by rw [scan_eq 8 _ _ (by decide)]; kernel_rfl)

theorem num_x : parseL (bs ⟨#[120, 58]⟩) = .ok ⟨[120], [], []⟩ := by
  rw [parseL_ok (ts := [⟨1, [120], 0, 0⟩, ⟨3, [58], 0, 1⟩]) (by rw [scan_eq 2 _ _ (by decide)]; kernel_rfl)]
  kernel_rfl
theorem num_e : parseL (bs ⟨#[]⟩) = .ok ⟨[], [], []⟩ := by
  rw [parseL_ok (ts := []) (by rw [scan_eq 0 _ _ (by decide)]; kernel_rfl)]
  kernel_rfl

theorem num_lines : linesOf [97, 10, 10, 98] = [[97], [], [98]] := by
  rw [linesOf_more _ (by simp)]
  show [97] :: linesOf [10, 98] = _
  rw [linesOf_more [10, 98] (by simp)]
  show [97] :: [] :: linesOf [98] = _
  rw [linesOf_more [98] (by simp)]
  show [97] :: [] :: [98] :: linesOf [] = _
  rw [linesOf_nil]

theorem num_acc : accS (numbered 1 (linesOf [97, 10, 10, 98])) = ⟨#[97, 124, 124, 98, 124]⟩ := by
  rw [num_lines]
  exact num_acc0

set_option maxHeartbeats 2000000 in
theorem lineNumbers_walk (w : World) : Calls Try.prog 3 #[] w fun e w' => e = .returned (.bool true) ∧ Below w.heap.size w w' := by
  have hS := Hid.intro (fun w => lineSame_eq ⟨#[]⟩ ⟨#[]⟩ none none 0 0 [] w (.inl rfl) (.inl rfl) (by simp) (fun xs hx => by cases hx))
  have hpe := Hid.intro (fun (j : Nat) (h : j < 6) (w : World) => parse_err (badAt j) (by have := bad_size j; omega) _ (bad_parse j h) w)
  refine (callsIn_wide (n := 8)).1 ?_
  refine callsIn_of_wp_marks Try.func3 rfl trivial ?_ rfl
  simp only [Try.ntmps3, List.size_toArray, List.length_nil, Nat.reduceSub, Array.replicate_succ, Array.replicate_zero, List.push_toArray, List.append_toArray, List.nil_append, List.cons_append]
  gi_wp2
  obtain ⟨W0, hW0⟩ : ∃ W0, ((w.alloc (.cells #[.bool false] 4)).alloc (.cells #[.string ⟨#[97, 100, 100, 32, 44, 32, 114, 49]⟩, .string ⟨#[58, 32, 97, 100, 100]⟩, .string ⟨#[51]⟩, .string ⟨#[97, 58, 32, 98, 58, 32, 99]⟩, .string ⟨#[97, 32, 98, 32, 99, 58]⟩, .string ⟨#[97, 100, 100, 32, 114, 49, 32, 36]⟩] 9)).alloc (.cells #[.int .i64 4, .int .i64 0, .int .i64 0, .int .i64 4, .int .i64 5, .int .i64 7] 3) = W0 := ⟨_, rfl⟩
  rw [hW0]
  have hsz : W0.heap.size = w.heap.size + 3 := by rw [← hW0]; simp
  have hb0 : Hid (Below w.heap.size w W0) := by rw [← hW0]; exact (((Below.refl _ w).alloc (Nat.le_refl _) _).alloc (by simp) _).alloc (by simp; omega) _
  have hr0 : Hid (W0.heap[w.heap.size]? = some (.cells #[.bool false] 4 (0, 0))) := by
    rw [← hW0]
    exact alloc_heapN (alloc_heapN (heap_alloc_new w _) _) _
  have hbad : Hid (∀ j, j < 6 → W0.cell? ⟨w.heap.size + 1, j, none⟩ = some (.string (badAt j))) := fun j hj => by
    have h := alloc_heapN (heap_alloc_new (w.alloc (.cells #[.bool false] 4)) (.cells #[.string ⟨#[97, 100, 100, 32, 44, 32, 114, 49]⟩, .string ⟨#[58, 32, 97, 100, 100]⟩, .string ⟨#[51]⟩, .string ⟨#[97, 58, 32, 98, 58, 32, 99]⟩, .string ⟨#[97, 32, 98, 32, 99, 58]⟩, .string ⟨#[97, 100, 100, 32, 114, 49, 32, 36]⟩] 9)) (.cells #[.int .i64 4, .int .i64 0, .int .i64 0, .int .i64 4, .int .i64 5, .int .i64 7] 3)
    rw [World.size_alloc, hW0] at h
    rw [cell_of_row _ _ _ _ _ _ h]
    have : j = 0 ∨ j = 1 ∨ j = 2 ∨ j = 3 ∨ j = 4 ∨ j = 5 := by omega
    rcases this with rfl | rfl | rfl | rfl | rfl | rfl <;> rfl
  have hplc : Hid (∀ j, j < 6 → W0.cell? ⟨w.heap.size + 1 + 1, j, none⟩ = some (.int .i64 (placeAt j : Int))) := fun j hj => by
    have h := heap_alloc_new ((w.alloc (.cells #[.bool false] 4)).alloc (.cells #[.string ⟨#[97, 100, 100, 32, 44, 32, 114, 49]⟩, .string ⟨#[58, 32, 97, 100, 100]⟩, .string ⟨#[51]⟩, .string ⟨#[97, 58, 32, 98, 58, 32, 99]⟩, .string ⟨#[97, 32, 98, 32, 99, 58]⟩, .string ⟨#[97, 100, 100, 32, 114, 49, 32, 36]⟩] 9)) (.cells #[.int .i64 4, .int .i64 0, .int .i64 0, .int .i64 4, .int .i64 5, .int .i64 7] 3)
    rw [World.size_alloc, World.size_alloc, hW0] at h
    rw [cell_of_row _ _ _ _ _ _ h]
    have : j = 0 ∨ j = 1 ∨ j = 2 ∨ j = 3 ∨ j = 4 ∨ j = 5 := by omega
    rcases this with rfl | rfl | rfl | rfl | rfl | rfl <;> rfl
  clear hW0
  gi_loopw [3] (fun vi wr => ∃ k : Nat, k ≤ 6 ∧ vi = .int .i64 (k : Int) ∧ Hid (Below W0.heap.size W0 wr)) (fun vi _ => 6 - (intOf vi).toNat)
  case atStart => exact ⟨0, by omega, rfl, Hid.intro (Below.refl _ _)⟩
  case round =>
    obtain ⟨k, hk, rfl, hbr⟩ := hrel
    by_cases hlt : k < 6
    · have q1 := (hbr.out.cell (p := ⟨w.heap.size + 1, k, none⟩) (by show w.heap.size + 1 < _; omega)).trans (hbad.out k hlt)
      have q2 := (hbr.out.cell (p := ⟨w.heap.size + 1 + 1, k, none⟩) (by show w.heap.size + 1 + 1 < _; omega)).trans (hplc.out k hlt)
      have hP := Hid.intro (hpe.out k hlt)
      have hg2 : w.heap.size + 1 + 1 < wr.heap.size := by have := hbr.out.size; omega
      gi_wp2_with (first
        | (refine ⟨trivial, ?_⟩; gi_at_call 8; refine (callsIn_wide.2 (hP.out _)).mono ?_; rintro e w1 ⟨hb1, rfl⟩; replace q2 := (hb1.cell (p := ⟨w.heap.size + 1 + 1, k, none⟩) hg2).trans q2; replace q2 := cellA q2)
        | (refine ⟨trivial, ?_⟩; gi_at_call 9; refine (callsIn_wide.2 (hS.out _)).mono ?_; rintro e w2 ⟨rfl, hb2⟩; replace q2 := (hb2.cell (p := ⟨w.heap.size + 1 + 1, k, none⟩) (by have := hb1.size; show w.heap.size + 1 + 1 < _; simp; omega)).trans (q2 _)))
      go_roundw
      case rel => exact ⟨k + 1, by omega, by go_num, Hid.intro ((bel_step ⟨bel_step ⟨hbr.out, hbr.out.size⟩ hb1 |>.1, (bel_step ⟨hbr.out, hbr.out.size⟩ hb1).2⟩ (one_below hb2)).1)⟩
      case measure => simp [intOf]; omega
    · have e : k = 6 := by omega
      subst e
      clear hbad hplc hpe
      have hbW : Hid (Below w.heap.size w wr) := hb0.out.trans (hbr.out.mono (by omega))
      have hres : Hid (wr.heap[w.heap.size]? = some (.cells #[.bool false] 4 (0, 0))) := (hbr.out.block w.heap.size (by omega)).trans hr0.out
      have hzr : w.heap.size < wr.heap.size := by have := hbr.out.size; omega
      have hP1 := Hid.intro (fun w => parse_line _ (by decide) _ num_x w)
      have hP2 := Hid.intro (fun w => parse_line _ (by decide) _ num_e w)
      simp only [List.length_nil] at hP1 hP2
      have hse := seq_some
      clear hb0 hr0 hbr hsz
      gi_wp2_with (first
        | (refine ⟨trivial, ?_⟩; gi_at_call 8; (with_reducible refine (callsIn_wide.2 (hP1.out _)).mono ?_); clear hP1; rintro e w1 ⟨hb1, a1, c1, vs1, m1, rfl, hA1⟩; clear hA1)
        | (refine ⟨trivial, ?_⟩; gi_at_call 8; (with_reducible refine (callsIn_wide.2 (hP2.out _)).mono ?_); clear hP2; rintro e w2 ⟨hb2, a2, c2, vs2, m2, rfl, hA2⟩; clear hA2)
        | (refine ⟨trivial, ?_⟩; gi_at_call 10; refine (callsIn_wide.2 (all_any _ _)).mono ?_; rintro e w3 ⟨rfl, hw3⟩))
      obtain ⟨Wl, hWl⟩ : ∃ Wl, ((((w2.alloc (.cells #[.string (str []), .string (str []), .slice a2 0 c2] 26)).alloc (.cells #[.string ⟨#[97, 10, 10, 98]⟩] 9)).alloc (.cells #[.string ⟨#[]⟩] 9)).alloc (.cells #[.int .i64 0] 3)) = Wl := ⟨_, rfl⟩
      rw [hWl]
      have hsl : Wl.heap.size = w2.heap.size + 4 := by rw [← hWl]; simp
      have hw12 : w1.heap.size < w2.heap.size := alloc_lt hb2
      have hw01 : wr.heap.size ≤ w1.heap.size := hb1.size
      have hbl : Below w.heap.size w Wl := by
        have k1 := bel_step ⟨hbW.out, hbW.out.size⟩ (hb1)
        have k2 := bel_step k1 (one_below hb2)
        rw [← hWl]
        exact (((k2.1.alloc k2.2 _).alloc (by simp; omega) _).alloc (by simp; omega) _).alloc (by simp; omega) _
      have cN : CI Wl (w2.heap.size + 1 + 1 + 1) 0 (.int .i64 0) := by
        rw [← hWl]
        have := heap_alloc_new (((w2.alloc (.cells #[.string (str []), .string (str []), .slice a2 0 c2] 26)).alloc (.cells #[.string ⟨#[97, 10, 10, 98]⟩] 9)).alloc (.cells #[.string ⟨#[]⟩] 9)) (.cells #[.int .i64 0] 3)
        simp only [World.size_alloc] at this
        exact ci_of this rfl
      have cA : CI Wl (w2.heap.size + 1 + 1) 0 (.string (accS [])) := by
        rw [← hWl]
        have := alloc_heapN (heap_alloc_new ((w2.alloc (.cells #[.string (str []), .string (str []), .slice a2 0 c2] 26)).alloc (.cells #[.string ⟨#[97, 10, 10, 98]⟩] 9)) (.cells #[.string ⟨#[]⟩] 9)) (.cells #[.int .i64 0] 3)
        simp only [World.size_alloc] at this
        exact ci_of this rfl
      have cS : CI Wl (w2.heap.size + 1) 0 (.string (str [97, 10, 10, 98])) := by
        rw [← hWl]
        have := alloc_heapN (alloc_heapN (heap_alloc_new (w2.alloc (.cells #[.string (str []), .string (str []), .slice a2 0 c2] 26)) (.cells #[.string ⟨#[97, 10, 10, 98]⟩] 9)) (.cells #[.string ⟨#[]⟩] 9)) (.cells #[.int .i64 0] 3)
        simp only [World.size_alloc] at this
        exact ci_of this rfl
      have hM : Wl.heap[w2.heap.size]? = some (.cells #[.string (str []), .string (str []), .slice a2 0 c2] 26 (0, 0)) := by
        rw [← hWl]
        exact alloc_heapN (alloc_heapN (alloc_heapN (heap_alloc_new w2 _) _) _) _
      have hL : Wl.heap[w1.heap.size]? = some (.cells #[.string (str [120]), .string (str []), .slice a1 0 c1] 26 (0, 0)) := by
        rw [← hWl]
        exact alloc_heapN (alloc_heapN (alloc_heapN (alloc_heapN ((hb2.block w1.heap.size (by simp)).trans (heap_alloc_new w1 _)) _) _) _) _
      have hRs : Wl.heap[w.heap.size]? = some (.cells #[.bool false] 4 (0, 0)) := by
        rw [← hWl]
        have k1 : w1.heap[w.heap.size]? = some (.cells #[.bool false] 4 (0, 0)) := (hb1.block w.heap.size hzr).trans hres.out
        have k2 : w2.heap[w.heap.size]? = some (.cells #[.bool false] 4 (0, 0)) := ((one_below hb2).block w.heap.size (by omega)).trans k1
        exact alloc_heapN (alloc_heapN (alloc_heapN (alloc_heapN k2 _) _) _) _
      have cR : CI Wl w.heap.size 0 (.bool false) := ci_of hRs rfl
      have cM0 : CI Wl w2.heap.size 0 (.string (str [])) := ci_of hM rfl
      have cM1 : CI Wl w2.heap.size 1 (.string (str [])) := ci_of hM rfl
      have cM2 : CI Wl w2.heap.size 2 (.slice a2 0 c2) := ci_of hM rfl
      have cL0 : CI Wl w1.heap.size 0 (.string (str [120])) := ci_of hL rfl
      have cL1 : CI Wl w1.heap.size 1 (.string (str [])) := ci_of hL rfl
      clear hM hL hRs hWl hw3 hres hbW hb1 hb2
      have hfit := Hid.intro hbl
      refine wpIn_rangeFunc_ownF (F := Fence.wide) rfl (by decide) (gf := 23) (lb := #[.pointer (some ⟨w2.heap.size + 1, 0, none⟩)]) rfl trivial (enters_of Try.func23 (by kernel_rfl) rfl)
        (all_stops 7 (by decide) (w2.heap.size + 1) [97, 10, 10, 98] (by decide) Wl (by omega) cS.cell) (fun _ _ => trivial) (fun _ _ _ _ _ _ _ _ => trivial) (Below.refl _ _) (fun _ => rfl)
        (fun pre W => (CI W (w2.heap.size + 1 + 1 + 1) 0 (.int .i64 (pre.length : Int)) ∧ CI W (w2.heap.size + 1 + 1) 0 (.string (accS pre)) ∧ CI W w.heap.size 0 (.bool false) ∧ CI W w2.heap.size 0 (.string (str [])) ∧ CI W w2.heap.size 1 (.string (str [])) ∧ CI W w2.heap.size 2 (.slice a2 0 c2) ∧ CI W w1.heap.size 0 (.string (str [120])) ∧ CI W w1.heap.size 1 (.string (str []))) ∧ Below w.heap.size w W)
        (fun c pre W => c = .ret ∧ ¬ (pre <+: numbered 1 (linesOf [97, 10, 10, 98])))
        (OwnFrom.and (Own.from (fun s A B row hs hg hr => ⟨hs.1.kept hg hr, hs.2.1.kept hg hr, hs.2.2.1.kept hg hr, hs.2.2.2.1.kept hg hr, hs.2.2.2.2.1.kept hg hr, hs.2.2.2.2.2.1.kept hg hr, hs.2.2.2.2.2.2.1.kept hg hr, hs.2.2.2.2.2.2.2.kept hg hr⟩) _) (ownFrom_below (Nat.le_refl _) (by omega)))
        (fun c s A B row hs hg hr => hs)
        ⟨⟨cN, cA, cR, cM0, cM1, cM2, cL0, cL1⟩, hbl⟩
        (fun x => { tmps := List.toArray (Value.pointer (some ⟨w.heap.size, 0, none⟩) :: Value.slice (some ⟨w.heap.size + 1, 0, none⟩) 6 6 :: Value.slice (some ⟨w.heap.size + 1 + 1, 0, none⟩) 6 6 :: Value.int IntKind.i64 6 :: u4 :: u5 :: u6 :: Value.pointer (some ⟨w1.heap.size, 0, none⟩) :: Value.int IntKind.i64 0 :: Value.int IntKind.i64 0 :: Value.pointer (some ⟨w2.heap.size, 0, none⟩) :: Value.int IntKind.i64 0 :: Value.int IntKind.i64 0 :: Value.func (Fn.func 23) #[] #[Value.pointer (some ⟨w2.heap.size + 1, 0, none⟩)] :: Value.pointer (some ⟨w2.heap.size + 1 + 1, 0, none⟩) :: Value.pointer (some ⟨w2.heap.size + 1 + 1 + 1, 0, none⟩) :: .int .i64 x.1.1 :: .string x.1.2 :: Value.slice (some ⟨w.heap.size + 1, 0, none⟩) 6 6 :: Value.slice (some ⟨w.heap.size + 1 + 1, 0, none⟩) 6 6 :: Value.int IntKind.i64 6 :: Value.slice (some ⟨w.heap.size + 1, 0, none⟩) 6 6 :: Value.int IntKind.i64 6 :: Value.bool false :: u24 :: u25 :: u26 :: u27 :: u28 :: u29 :: u30 :: u31 :: u32 :: u33 :: u34 :: u35 :: u36 :: u37 :: u38 :: u39 :: u40 :: u41 :: u42 :: u43 :: u44 :: u45 :: u46 :: u47 :: u48 :: u49 :: u50 :: Value.tuple #[Value.agg #[Value.string (str [120]), Value.string (str []), Value.slice a1 0 c1], Value.int IntKind.i64 0, Value.int IntKind.i64 0] :: Value.tuple #[Value.agg #[Value.string (str [120]), Value.string (str []), Value.slice a1 0 c1], Value.int IntKind.i64 0, Value.int IntKind.i64 0] :: Value.agg #[Value.string (str [120]), Value.string (str []), Value.slice a1 0 c1] :: Value.int IntKind.i64 0 :: Value.int IntKind.i64 0 :: Value.tuple #[Value.agg #[Value.string (str []), Value.string (str []), Value.slice a2 0 c2], Value.int IntKind.i64 0, Value.int IntKind.i64 0] :: Value.tuple #[Value.agg #[Value.string (str []), Value.string (str []), Value.slice a2 0 c2], Value.int IntKind.i64 0, Value.int IntKind.i64 0] :: Value.agg #[Value.string (str []), Value.string (str []), Value.slice a2 0 c2] :: Value.int IntKind.i64 0 :: Value.int IntKind.i64 0 :: Value.func (Fn.func 23) #[] #[Value.pointer (some ⟨w2.heap.size + 1, 0, none⟩)] :: Value.func (Fn.func 23) #[] #[Value.pointer (some ⟨w2.heap.size + 1, 0, none⟩)] :: Value.bool false :: Value.func (Fn.func 23) #[] #[Value.pointer (some ⟨w2.heap.size + 1, 0, none⟩)] :: .int .i64 x.1.1 :: .string x.1.2 :: undef :: undef :: undef :: undef :: undef :: undef :: undef :: undef :: undef :: undef :: undef :: undef :: undef :: undef :: undef :: undef :: undef :: undef :: undef :: undef :: undef :: undef :: undef :: undef :: undef :: undef :: undef :: undef :: undef :: undef :: undef :: undef :: undef :: undef :: undef :: undef :: undef :: []), defers := [] }) ?assign ?body ?done ?stop
      case assign =>
        intro l x W K hK
        gi_wp2
        exact hK
      case body =>
        rintro l pre x W ⟨⟨hN, hA, hR, hM0, hM1, hM2, hL0, hL1⟩, hB⟩ hlt
        rw [num_lines] at hlt
        have hpl : pre.length < 3 := hlt
        clear hlt
        obtain ⟨n1, n2⟩ := hN
        obtain ⟨m1, m2⟩ := hA
        obtain ⟨r1, r2⟩ := hR
        have hN : Hid (CI W (w2.heap.size + 1 + 1 + 1) 0 (.int .i64 (pre.length : Int))) := ⟨n1, n2⟩
        have hA : Hid (CI W (w2.heap.size + 1 + 1) 0 (.string (accS pre))) := ⟨m1, m2⟩
        have hR : Hid (CI W w.heap.size 0 (.bool false)) := ⟨r1, r2⟩
        replace hM0 := Hid.intro hM0
        replace hM1 := Hid.intro hM1
        replace hM2 := Hid.intro hM2
        replace hL0 := Hid.intro hL0
        replace hL1 := Hid.intro hL1
        have hne1 : ¬ w2.heap.size + 1 + 1 = w2.heap.size + 1 + 1 + 1 := by omega
        have hne2 : ¬ w.heap.size = w2.heap.size + 1 + 1 + 1 := by omega
        by_cases hx : x.1.1 = (pre.length : Int) + 1
        · have ht : (x.1.1 != (pre.length : Int) + 1) = false := by simp [hx]
          have hsz := accS_size pre
          have hxz := x.2
          have e1 : (⟨#[124]⟩ : ByteArray).size = 1 := rfl
          have ha1 : ∀ W : World, (Op.stringOp .add (accS pre) x.1.2).run Try.prog W = .ok (.string (accS pre ++ x.1.2)) W := fun W => run_string_add_sum W _ _ (by omega)
          have ha2 : ∀ W : World, (Op.stringOp .add (accS pre ++ x.1.2) ⟨#[124]⟩).run Try.prog W = .ok (.string (accS pre ++ x.1.2 ++ ⟨#[124]⟩)) W := fun W => run_string_add_sum W _ _ (by rw [ByteArray.size_append, e1]; omega)
          clear hx
          gi_wp2
          refine ⟨(KeepsOthers.setCell _ _ _).trans (KeepsOthers.setCell _ _ _), trivial, ⟨?_, (hA.out.other (by omega)).set _ |> fun h => by rw [accS_snoc]; exact h, (hR.out.other (by omega)).other (by omega), (hM0.out.other (by omega)).other (by omega), (hM1.out.other (by omega)).other (by omega), (hM2.out.other (by omega)).other (by omega), (hL0.out.other (by omega)).other (by omega), (hL1.out.other (by omega)).other (by omega)⟩, (hB.setCell (p := ⟨w2.heap.size + 1 + 1 + 1, 0, none⟩) (by show w.heap.size ≤ w2.heap.size + 1 + 1 + 1; omega) _).setCell (p := ⟨w2.heap.size + 1 + 1, 0, none⟩) (by show w.heap.size ≤ w2.heap.size + 1 + 1; omega) _⟩
          have := (hN.out.set (.int .i64 ((pre.length : Int) + 1))).other (b' := w2.heap.size + 1 + 1) (k' := 0) (v' := .string (accS pre ++ x.1.2 ++ ⟨#[124]⟩)) (by omega)
          simpa using this
        · have ht : (x.1.1 != (pre.length : Int) + 1) = true := by simp [hx]
          have hxH := Hid.intro hx
          clear hx
          gi_wp2
          refine ⟨(KeepsOthers.setCell _ _ _).trans (KeepsOthers.setCell _ _ _), rfl, fun h => hxH.out ?_⟩
          have := (numbered_at 1 _ pre x h).1
          rw [this]
          push_cast
          omega
      case done =>
        rintro D ys W hD rfl ⟨⟨hN, hA, hR, hM0, hM1, hM2, hL0, hL1⟩, hB⟩ hK
        rw [num_acc] at hA
        have hDl : D < W.heap.size := (Array.getElem?_eq_some_iff.1 hK).1
        have hDr : w.heap.size < D := by omega
        have e1 := str_toList [120]
        have e2 := str_toList []
        obtain ⟨m01, m02⟩ := hM0
        obtain ⟨m11, m12⟩ := hM1
        obtain ⟨m21, m22⟩ := hM2
        obtain ⟨l01, l02⟩ := hL0
        obtain ⟨l11, l12⟩ := hL1
        replace hA := Hid.intro hA
        replace hR := Hid.intro hR
        replace hK := Hid.intro hK
        replace hB := Hid.intro hB
        clear hN
        gi_wp2_with (first
          | (refine ⟨trivial, ?_⟩; gi_at_call 9; refine (callsIn_wide.2 (lineSame_eq ⟨#[]⟩ ⟨#[]⟩ a2 none c2 0 [] W (.inl rfl) (.inl rfl) (by simp) (fun xs hx => by cases hx))).mono ?_; rintro e w5 ⟨rfl, hb5⟩; obtain ⟨a51, a52⟩ := hA.out.below hb5 hA.out.lt)
          | (refine ⟨trivial, ?_⟩; gi_at_call 11; refine (callsIn_wide.2 (known_any _)).mono ?_; rintro e w6 ⟨rfl, hb6⟩; obtain ⟨r61, r62⟩ := (hR.out.below hb5 hR.out.lt).below hb6 (Nat.lt_of_lt_of_le hR.out.lt hb5.size)))
        have hK6 : w6.heap[D]? = some (.deferred (some [])) := (hb6.block D (Nat.lt_of_lt_of_le hDl hb5.size)).trans ((hb5.block D hDl).trans hK.out)
        have hK' := (KeepsOthers.setCell w6 ⟨w.heap.size, 0, none⟩ (.bool true)).same D _ hK6 rfl
        have hBf : Below w.heap.size w (w6.setCell ⟨w.heap.size, 0, none⟩ (.bool true)) := (bel_step (bel_step ⟨hB.out, hB.out.size⟩ hb5) hb6).1.setCell (p := ⟨w.heap.size, 0, none⟩) (Nat.le_refl _) _
        refine ⟨by simp, .inl ⟨_, _, rfl, run_takeDeferred hK', ?_⟩⟩
        have hc5 := cell_kept (World.cell?_setCell_same' w6 ⟨w.heap.size, 0, none⟩ (.bool true) (by rw [r61]; rfl)) (grownBy_putObj' _ D (.deferred none)) (fun r e => by cases e; exact ⟨_, hK', rfl⟩)
        refine ⟨.bool true, ?_, rfl, hBf.trans (belowK_b (w := w) (Nat.le_refl _) _ D _ _ (by omega) hK' rfl rfl)⟩
        simp [results, Try.results3, go_sem, hc5]
      case stop =>
        rintro D c pre W hD hpre ⟨rfl, hno⟩ hK
        exact absurd hpre hno
end Go.Proofs.Ytdmhdhmclcogoaa
