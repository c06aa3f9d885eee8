/- The walk of LineAll. -/
import Derived.Test.YtdmhdhmclcogoaaNumsW
import Derived.Test.YtdmhdhmclcogoaaRefL
namespace Go.Proofs.Ytdmhdhmclcogoaa
open Go.ChangeShapes Go.WideShapes Go.ChangeAt Go.RowKit Go.Shelf
set_option linter.unusedVariables false
set_option maxRecDepth 100000
attribute [local go_sem] Oper.semAt_some

theorem within_any (a : Int) (ha : -9223372036854775808 ≤ a) (hb : a ≤ 9223372036854775807) : ∃ q : Nat, q ≤ 20 ∧ ∀ w, Calls Try.prog 15 #[.int .i64 a, .int .i64 0, .int .i64 20] w fun e w' => e = .returned (.int .i64 (q : Int)) ∧ w' = w := by
  have h1 : a.tmod 21 < 21 := Int.tmod_lt_of_pos a (by decide)
  have h2 : -21 < a.tmod 21 := Int.lt_tmod_of_pos a (by decide)
  by_cases h : a.tmod 21 < 0
  · refine ⟨(a.tmod 21 + 21).toNat, by omega, fun w => ?_⟩
    have e : (((a.tmod 21 + 21).toNat : Nat) : Int) = a.tmod 21 + 21 := by omega
    rw [e]
    go_enter Try.func15, Try.ntmps15
    go_wp2
    go_ret
    refine ⟨?_, rfl⟩
    show Ending.returned (Value.int .i64 (a.tmod 21 + 20 + 1)) = _
    rw [show a.tmod 21 + 20 + 1 = a.tmod 21 + 21 by omega]
  · refine ⟨(a.tmod 21).toNat, by omega, fun w => ?_⟩
    have e : (((a.tmod 21).toNat : Nat) : Int) = a.tmod 21 := by omega
    rw [e]
    go_enter Try.func15, Try.ntmps15
    go_wp2
    all_goals first | omega | skip
    go_ret
    exact ⟨rfl, rfl⟩

theorem two_cells {w w1 : World} {x y : Value} {T U : TypeId} (hb : Below ((w.alloc (.cells #[x] T)).alloc (.cells #[y] U)).heap.size ((w.alloc (.cells #[x] T)).alloc (.cells #[y] U)) w1) :
    (∀ o, (w1.alloc o).cell? ⟨w.heap.size, 0, none⟩ = some x) ∧ (∀ o, (w1.alloc o).frozen? ⟨w.heap.size, 0, none⟩ = false) ∧ (∀ o o', ((w1.alloc o).alloc o').cell? ⟨w.heap.size, 0, none⟩ = some x) ∧ (∀ o o', ((w1.alloc o).alloc o').frozen? ⟨w.heap.size, 0, none⟩ = false) := by
  have h : w1.heap[w.heap.size]? = some (.cells #[x] T (0, 0)) := (hb.block w.heap.size (by simp; omega)).trans (alloc_heapN (heap_alloc_new w _) _)
  have h1 := fun o => alloc_heapN h o
  have h2 := fun o o' => alloc_heapN (h1 o) o'
  exact ⟨fun o => by rw [cell_of_row _ _ _ _ _ _ (h1 o)]; rfl, fun o => frozen_of_row _ _ _ _ _ (h1 o), fun o o' => by rw [cell_of_row _ _ _ _ _ _ (h2 o o')]; rfl, fun o o' => frozen_of_row _ _ _ _ _ (h2 o o')⟩

theorem int_fits (a : Int) (h : (Lit.int .i64 a).wf = true) : -9223372036854775808 ≤ a ∧ a ≤ 9223372036854775807 := by
  have h1 : IntKind.i64.min = -9223372036854775808 := rfl
  have h2 : IntKind.i64.max = 9223372036854775807 := rfl
  simp only [Lit.wf, Bool.and_eq_true, decide_eq_true_eq] at h
  omega

theorem ownFrom_def {β : Type} {B D : Nat} {o : Obj} (hD : D < B) : OwnFrom (β := β) B (fun _ W => W.heap[D]? = some o) := fun s A B' row hs hg hr => (hg.block D (Array.getElem?_eq_some_iff.1 hs).1 (fun e => by have := (hr D e.symm).1; omega)).trans hs

theorem toList_str (s : ByteArray) : str s.toList = s := by
  rw [Lib.toList_data]
  rfl

theorem mkA_str (i : Nat) (l : List UInt8) (h : l.length ≤ 3000) : (mkA i l).1.2 = str l := by
  show str (l.take 3000) = _
  rw [List.take_of_length_le h]

/-- the texts ls lie from av on -/
def StrRow (ls : List (List UInt8)) (av : Option Addr) (W : World) : Prop := ∀ (j : Nat) (l : List UInt8), ls[j]? = some l → ∃ g, av = some ⟨g, 0, none⟩ ∧ W.cell? ⟨g, j, none⟩ = some (.string (str l))

theorem StrRow.of_own {ls : List (List UInt8)} {av : Option Addr} {W : World} {lo n cv : Nat} (h : W.ownsRow lo 9 1 (.slice av n cv) n (strRow ls)) : StrRow ls av W := fun j l hl => by
  have hj : (strRow ls)[j]? = some (.string (str l)) := by simp [strRow, hl]
  have hlt := (List.getElem?_eq_some_iff.1 hj).1
  have hlen := h.1
  rcases h.2 with ⟨_, e⟩ | ⟨g, cap, cur, e1, e2⟩
  · rw [e] at hlen; omega
  · injection e1 with e1 e3 e4
    subst e1
    refine ⟨g, rfl, ?_⟩
    rw [h.cellAt j (by omega)]
    exact hj

theorem StrRow.kept {ls : List (List UInt8)} {av : Option Addr} {A B : World} {row : Option Nat} (h : StrRow ls av A) (hg : A.grownBy B row) (hr : ∀ r, row = some r → ∃ o : Obj, A.heap[r]? = some o ∧ o.isCells = false) : StrRow ls av B := fun j l hl => by
  obtain ⟨g, e, hc⟩ := h j l hl
  exact ⟨g, e, cell_kept hc hg hr⟩

theorem StrRow.set {ls : List (List UInt8)} {av : Option Addr} {W : World} (h : StrRow ls av W) (b : Nat) (v : Value) (hb : ∀ x, av = some x → x.block ≠ b) : StrRow ls av (W.setCell ⟨b, 0, none⟩ v) := fun j l hl => by
  obtain ⟨g, e, hc⟩ := h j l hl
  exact ⟨g, e, (World.cell?_of_block (heap_setCell_other W ⟨b, 0, none⟩ g v (hb _ e))).trans hc⟩

theorem StrRow.below {ls : List (List UInt8)} {av : Option Addr} {W W' : World} (h : StrRow ls av W) (hb : Below W.heap.size W W') : StrRow ls av W' := fun j l hl => by
  obtain ⟨g, e, hc⟩ := h j l hl
  exact ⟨g, e, (hb.cell (p := ⟨g, j, none⟩) (World.block_lt_of_cell? W ⟨g, j, none⟩ hc)).trans hc⟩

/-- what the loop's cells hold -/
structure AS (ws w2s q n0 cv : Nat) (av : Option Addr) (s1 : ByteArray) (ls : List (List UInt8)) (T : Int) (bT bN : Nat) (n : Int) (W : World) : Prop where
  cN : CI W bN 0 (.int .i64 n)
  cR : CI W (ws + 1) 0 (.bool false)
  cQ : CI W ws 0 (.int .i64 (q : Int))
  cT : CI W bT 0 (.int .i64 T)
  cW : CI W w2s 0 (.slice av n0 cv)
  cS : CI W (w2s + 1) 0 (.string s1)
  row : StrRow ls av W

section
variable {ws w2s q n0 cv : Nat} {av : Option Addr} {s1 : ByteArray} {ls : List (List UInt8)} {T : Int} {bT bN : Nat} {n : Int}
theorem AS.kept {A B : World} {row : Option Nat} (h : AS ws w2s q n0 cv av s1 ls T bT bN n A) (hg : A.grownBy B row) (hr : ∀ r, row = some r → ∃ o : Obj, A.heap[r]? = some o ∧ o.isCells = false) : AS ws w2s q n0 cv av s1 ls T bT bN n B :=
  ⟨h.cN.kept hg hr, h.cR.kept hg hr, h.cQ.kept hg hr, h.cT.kept hg hr, h.cW.kept hg hr, h.cS.kept hg hr, h.row.kept hg hr⟩
theorem AS.below {A B : World} (h : AS ws w2s q n0 cv av s1 ls T bT bN n A) (hb : Below A.heap.size A B) : AS ws w2s q n0 cv av s1 ls T bT bN n B :=
  ⟨h.cN.below hb h.cN.lt, h.cR.below hb h.cR.lt, h.cQ.below hb h.cQ.lt, h.cT.below hb h.cT.lt, h.cW.below hb h.cW.lt, h.cS.below hb h.cS.lt, h.row.below hb⟩
theorem AS.setN {W : World} (h : AS ws w2s q n0 cv av s1 ls T bT bN n W) (m : Int) (h1 : w2s + 1 < bN) (h2 : bT ≠ bN) (h3 : ws + 1 < w2s) (h4 : ∀ x, av = some x → x.block < w2s) : AS ws w2s q n0 cv av s1 ls T bT bN m (W.setCell ⟨bN, 0, none⟩ (.int .i64 m)) :=
  ⟨h.cN.set _, h.cR.other (by omega), h.cQ.other (by omega), h.cT.other h2, h.cW.other (by omega), h.cS.other (by omega), h.row.set _ _ (fun x hx => by have := h4 x hx; omega)⟩
end

set_option maxHeartbeats 2000000 in
theorem lineAll_walk (s : ByteArray) (hs : s.size ≤ maxLen) (st : Int) (hst : -9223372036854775808 ≤ st) (hst2 : st ≤ 9223372036854775807) (w : World) :
    Calls Try.prog 5 #[.string s, .int .i64 st] w fun e w' => e = .returned (.bool true) ∧ Below w.heap.size w w' := by
  unfold maxLen at hs
  have hf1 : ∀ w, Calls Try.prog 12 #[.string s, .int .i64 3000] w fun e w' => e = .returned (.string (fewS s 3000)) ∧ w' = w := fun w => few_big s 3000 (by omega) (by omega) w
  have z1 := fewS_size s 3000
  obtain ⟨s1, hs1⟩ : ∃ s1, s1 = fewS s 3000 := ⟨_, rfl⟩
  rw [← hs1] at hf1 z1
  clear hs1
  obtain ⟨q, hq, hW⟩ := within_any st hst hst2
  have hF1 := Hid.intro hf1
  have hWi := Hid.intro hW
  have hRL := Hid.intro (fun w => refLines_any s1 (by omega) w)
  clear hf1 hW
  have hse := seq_some
  refine (callsIn_wide (n := 8)).1 ?_
  refine callsIn_of_wp_marks Try.func5 rfl trivial ?_ rfl
  simp only [Try.ntmps5, List.size_toArray, List.length_cons, List.length_nil, Nat.reduceAdd, Nat.reduceSub, Array.replicate_succ, Array.replicate_zero, List.push_toArray, List.append_toArray, List.nil_append, List.cons_append]
  gi_wp2_with (first
    | (refine ⟨trivial, ?_⟩; gi_at_call 12; refine (callsIn_wide.2 (hF1.out _)).mono ?_; rintro e w1 ⟨rfl, rfl⟩)
    | (refine ⟨trivial, ?_⟩; gi_at_call 14; refine (callsIn_wide.2 (hRL.out _)).mono ?_; rintro e w2 ⟨hb2, v2, rfl, hown2⟩; obtain ⟨av, cv, rfl⟩ := own_slice hown2; replace hown2 := Hid.intro hown2; obtain ⟨p1, p2, p3, p4⟩ := two_cells hb2)
    | (refine ⟨trivial, ?_⟩; gi_at_call 10; refine (callsIn_wide.2 (all_any _ _)).mono ?_; rintro e w3 ⟨rfl, rfl⟩)
    | (refine ⟨trivial, ?_⟩; gi_at_call 15; refine (callsIn_wide.2 (hWi.out _)).mono ?_; rintro e w4 ⟨rfl, rfl⟩))
  obtain ⟨ls, hls⟩ : ∃ ls, ls = linesOf (bs s1) := ⟨_, rfl⟩
  rw [← hls] at hown2 ⊢
  obtain ⟨n0, hn0⟩ : ∃ n0, n0 = ls.length := ⟨_, rfl⟩
  rw [← hn0] at hown2 ⊢
  have hnH := Hid.intro hn0
  have hlm : n0 ≤ 3000 ∧ ∀ l ∈ ls, l.length ≤ 3000 := by
    have k1 := linesOf_len (bs s1)
    have k2 := linesOf_size (bs s1)
    rw [bs_length] at k1
    rw [hn0, hls]
    exact ⟨by omega, fun l hl => by have := k2 l hl; rw [bs_length] at this; omega⟩
  obtain ⟨WL, hWL⟩ : ∃ WL, ((((w2.alloc (.cells #[.slice av n0 cv] 22)).alloc (.cells #[.string s1] 9)).setCell ⟨w.heap.size, 0, none⟩ (.int .i64 (q : Int))).alloc (.cells #[.int .i64 0] 3)) = WL := ⟨_, rfl⟩
  rw [hWL]
  have hzw : w.heap.size + 2 ≤ w2.heap.size := by have := hb2.size; simpa using this
  have hsz : WL.heap.size = w2.heap.size + 3 := by rw [← hWL]; simp
  have cT : CI WL (w2.heap.size + 1 + 1) 0 (.int .i64 0) := by
    rw [← hWL]
    have := heap_alloc_new (((w2.alloc (.cells #[.slice av n0 cv] 22)).alloc (.cells #[.string s1] 9)).setCell ⟨w.heap.size, 0, none⟩ (.int .i64 (q : Int))) (.cells #[.int .i64 0] 3)
    rw [show (((w2.alloc (.cells #[.slice av n0 cv] 22)).alloc (.cells #[.string s1] 9)).setCell ⟨w.heap.size, 0, none⟩ (.int .i64 (q : Int))).heap.size = w2.heap.size + 1 + 1 by simp] at this
    exact ci_of this rfl
  have k0 : w2.heap[w.heap.size]? = some (.cells #[.int .i64 st] 3 (0, 0)) := (hb2.block w.heap.size (by simp; omega)).trans (alloc_heapN (heap_alloc_new w _) _)
  have k1 : w2.heap[w.heap.size + 1]? = some (.cells #[.bool false] 4 (0, 0)) := (hb2.block (w.heap.size + 1) (by simp)).trans (by have := heap_alloc_new (w.alloc (.cells #[.int .i64 st] 3)) (.cells #[.bool false] 4); rwa [World.size_alloc] at this)
  have cQ : CI WL w.heap.size 0 (.int .i64 (q : Int)) := by
    rw [← hWL]
    have := heap_setCell_same _ w.heap.size 0 _ 3 (.int .i64 (q : Int)) (alloc_heapN (alloc_heapN k0 (.cells #[.slice av n0 cv] 22)) (.cells #[.string s1] 9))
    exact ci_of (alloc_heapN this _) rfl
  have old : ∀ k, k ≠ w.heap.size → k < w2.heap.size + 2 → WL.heap[k]? = ((w2.alloc (.cells #[.slice av n0 cv] 22)).alloc (.cells #[.string s1] 9)).heap[k]? := fun k hk hk2 => by
    rw [← hWL, (below_alloc _ _).block k (by simp; omega), heap_setCell_other _ _ _ _ hk]
  have cR : CI WL (w.heap.size + 1) 0 (.bool false) := ci_of ((old _ (by omega) (by omega)).trans (alloc_heapN (alloc_heapN k1 _) _)) rfl
  have cW : CI WL w2.heap.size 0 (.slice av n0 cv) := ci_of ((old _ (by omega) (by omega)).trans (alloc_heapN (heap_alloc_new w2 _) _)) rfl
  have cS : CI WL (w2.heap.size + 1) 0 (.string s1) := by
    have := heap_alloc_new (w2.alloc (.cells #[.slice av n0 cv] 22)) (.cells #[.string s1] 9)
    rw [World.size_alloc] at this
    exact ci_of ((old _ (by omega) (by omega)).trans this) rfl
  have hbl : Below w.heap.size w WL := by
    rw [← hWL]
    have kb : Below w.heap.size w w2 := (((Below.refl _ w).alloc (Nat.le_refl _) _).alloc (by simp) _).trans (hb2.mono (by simp; omega))
    exact ((((kb.alloc (by omega) _).alloc (by simp; omega) _).setCell (p := ⟨w.heap.size, 0, none⟩) (Nat.le_refl _) _).alloc (by simp; omega) _)
  have hgw : ∀ x, av = some x → w.heap.size + 1 < x.block ∧ x.block < w2.heap.size := fun x hx => by
    subst hx
    have := hown2.out.lt x.block rfl
    simp at this
    omega
  have cRow : StrRow ls av WL := fun j l hl => by
    obtain ⟨g, e, hc⟩ := StrRow.of_own hown2.out j l hl
    have hg := hgw _ e
    refine ⟨g, e, (World.cell?_of_block (a := ⟨g, j, none⟩) (old g (by simp at hg; omega) (by simp at hg; omega))).trans (cellA (cellA hc _) _)⟩
  replace hgw := Hid.intro hgw
  have hlsH := Hid.intro hls
  clear hWL hown2 hb2 k0 k1 old p1 p2 p3 p4 hls hn0 hF1 hWi hRL hse
  refine wpIn_loop_rounds 3 ?_
  rw [roundsIn_succ]
  obtain ⟨t1, t2⟩ := cT
  have cT : Hid (CI WL (w2.heap.size + 1 + 1) 0 (.int .i64 0)) := ⟨t1, t2⟩
  gi_wp2
  have hA0 : AS w.heap.size w2.heap.size q n0 cv av s1 ls 0 (w2.heap.size + 1 + 1) (w2.heap.size + 3) 0 (WL.alloc (.cells #[.int .i64 0] 3)) := by
    have hbA := below_alloc WL (.cells #[.int .i64 0] 3)
    refine ⟨?_, cR.below hbA cR.lt, cQ.below hbA cQ.lt, cT.out.below hbA cT.out.lt, cW.below hbA cW.lt, cS.below hbA cS.lt, cRow.below hbA⟩
    have := heap_alloc_new WL (.cells #[.int .i64 0] 3)
    rw [hsz] at this
    exact ci_of this rfl
  have hb0 : Below w.heap.size w (WL.alloc (.cells #[.int .i64 0] 3)) := hbl.alloc (by omega) _
  have hz0 : (WL.alloc (.cells #[.int .i64 0] 3)).heap.size = w2.heap.size + 4 := by simp [hsz]
  generalize (WL.alloc (.cells #[.int .i64 0] 3)) = WA at hA0 hb0 hz0 ⊢
  clear cR cQ cT cW cS cRow hbl hsz t1 t2
  have hs1e : str (bs s1) = s1 := rfl
  refine wpIn_rangeFunc_ownF (F := Fence.wide) rfl (by decide) (gf := 23) (lb := #[.pointer (some ⟨w2.heap.size + 1, 0, none⟩)]) rfl trivial (enters_of Try.func23 (by kernel_rfl) rfl)
    (by have := all_stops 7 (by decide) (w2.heap.size + 1) (bs s1) (by rw [bs_length]; exact z1) WA (by omega) hA0.cS.cell; rw [← hlsH.out] at this; exact this) (fun _ _ => trivial) (fun _ _ _ _ _ _ _ _ => trivial) (Below.refl _ _) (fun _ => rfl)
    (fun pre W => AS w.heap.size w2.heap.size q n0 cv av s1 ls 0 (w2.heap.size + 1 + 1) (w2.heap.size + 3) (pre.length : Int) W ∧ Below w.heap.size w W)
    (fun c pre W => c = .ret ∧ ¬ (pre <+: numbered 1 ls))
    (OwnFrom.and (Own.from (fun s A B row hs hg hr => hs.kept hg hr) _) (ownFrom_below (Nat.le_refl _) (by omega)))
    (fun c s A B row hs hg hr => hs)
    ⟨hA0, hb0⟩
    (fun x => { tmps := List.toArray (.string s1 :: .int .i64 st :: undef :: .pointer (some ⟨w.heap.size, 0, none⟩) :: .pointer (some ⟨w.heap.size + 1, 0, none⟩) :: .pointer (some ⟨w2.heap.size, 0, none⟩) :: .func (.func 23) #[] #[.pointer (some ⟨w2.heap.size + 1, 0, none⟩)] :: .pointer (some ⟨w2.heap.size + 1 + 1, 0, none⟩) :: .pointer (some ⟨w2.heap.size + 3, 0, none⟩) :: .int .i64 x.1.1 :: .string x.1.2 :: .string s :: .string s1 :: .string s1 :: .slice av n0 cv :: .string s1 :: .func (.func 23) #[] #[.pointer (some ⟨w2.heap.size + 1, 0, none⟩)] :: .func (.func 23) #[] #[.pointer (some ⟨w2.heap.size + 1, 0, none⟩)] :: .bool false :: .int .i64 st :: .int .i64 (q : Int) :: .int .i64 0 :: .bool true :: undef :: undef :: .func (.func 23) #[] #[.pointer (some ⟨w2.heap.size + 1, 0, none⟩)] :: .int .i64 x.1.1 :: .string x.1.2 :: undef :: undef :: undef :: undef :: undef :: undef :: undef :: undef :: undef :: undef :: undef :: undef :: undef :: undef :: undef :: undef :: undef :: undef :: undef :: undef :: undef :: undef :: undef :: undef :: undef :: undef :: undef :: undef :: undef :: undef :: undef :: undef :: undef :: undef :: []), defers := [] }) ?assign ?body ?done ?stop
  case assign =>
    intro l x W K hK
    gi_wp2
    exact hK
  case body =>
    rintro l pre x W ⟨hA, hB⟩ hlt
    replace hlt : pre.length < ls.length := hlt
    obtain ⟨ln, hln⟩ : ∃ ln, ls[pre.length]? = some ln := ⟨ls[pre.length], List.getElem?_eq_getElem hlt⟩
    have hll := hlm.2 ln (List.mem_of_getElem? hln)
    obtain ⟨gw, hav, hc⟩ := hA.row pre.length ln hln
    have hg := hgw.out _ hav
    subst hav
    have hgl : gw < w2.heap.size := hg.2
    have hlti : (pre.length : Int) < (n0 : Int) := by rw [hnH.out]; omega
    have hd : decide ((n0 : Int) ≤ (pre.length : Int)) = false := by simp; omega
    have hpl : (pre.length : Int) ≤ 3000 := by have := hlm.1; omega
    have hno : Hid (¬ (x.1.1 = (pre.length : Int) + 1 ∧ x.1.2 = str ln) → ¬ (pre ++ [x]) <+: numbered 1 ls) := fun h1 h2 => h1 (by
      obtain ⟨k1, l', k2, k3⟩ := numbered_at 1 ls pre x h2
      rw [hln] at k2
      cases k2
      refine ⟨by rw [k1]; push_cast; omega, by rw [k3, mkA_str _ _ hll]⟩)
    have e1 := str_toList ln
    obtain ⟨a1, a2⟩ := hA.cN
    obtain ⟨b1, b2⟩ := hA.cR
    obtain ⟨c1, c2⟩ := hA.cQ
    obtain ⟨d1, d2⟩ := hA.cT
    obtain ⟨f1, f2⟩ := hA.cW
    have hAH := Hid.intro hA
    clear hA hg hln
    by_cases hx : x.1.1 = (pre.length : Int) + 1
    · have ht : (x.1.1 != (pre.length : Int) + 1) = false := by simp [hx]
      by_cases hy : x.1.2 = str ln
      · have hys : (x.1.2.toList == ln) = true := by rw [hy, e1]; simp
        clear hno hx hy
        gi_wp2
        refine ⟨KeepsOthers.setCell _ _ _, trivial, ?_, hB.setCell (p := ⟨w2.heap.size + 3, 0, none⟩) (by show w.heap.size ≤ w2.heap.size + 3; omega) _⟩
        have := hAH.out.setN ((pre.length : Int) + 1) (by omega) (by omega) (by omega) (fun x hx => (hgw.out x hx).2)
        rw [List.length_append, List.length_singleton]
        push_cast
        exact this
      · have hys : (x.1.2.toList == ln) = false := by
          rw [beq_eq_false_iff_ne]
          exact fun h => hy (by rw [← h]; exact (toList_str _).symm)
        have hn2 := Hid.intro (hno.out (fun h => hy h.2))
        clear hno hx hy
        gi_wp2
        exact ⟨KeepsOthers.setCell _ _ _, rfl, hn2.out⟩
    · have ht : (x.1.1 != (pre.length : Int) + 1) = true := by simp [hx]
      have hn2 := Hid.intro (hno.out (fun h => hx h.1))
      clear hno hx
      gi_wp2
      exact ⟨KeepsOthers.setCell _ _ _, rfl, hn2.out⟩
  case done =>
    rintro D1 ys W hD1 rfl ⟨hA, hB⟩ hK1
    rw [numbered_len, ← hnH.out] at hA
    obtain ⟨a1, a2⟩ := hA.cN
    obtain ⟨d1, d2⟩ := hA.cT
    obtain ⟨f1, f2⟩ := hA.cW
    replace hA := Hid.intro hA
    replace hB := Hid.intro hB
    replace hK1 := Hid.intro hK1
    gi_wp2
    rw [roundsIn_succ]
    gi_wp2
    have hWs : w2.heap.size + 4 ≤ W.heap.size := by have := hA.out.cN.lt; omega
    have hDl : D1 < W.heap.size := (Array.getElem?_eq_some_iff.1 hK1.out).1
    have hA1 : AS w.heap.size w2.heap.size q n0 cv av s1 ls 1 W.heap.size (W.heap.size + 1) 0 ((W.alloc (.cells #[.int .i64 1] 3)).alloc (.cells #[.int .i64 0] 3)) := by
      have hbA : Below W.heap.size W ((W.alloc (.cells #[.int .i64 1] 3)).alloc (.cells #[.int .i64 0] 3)) := (below_alloc W _).alloc (by simp) _
      refine ⟨?_, hA.out.cR.below hbA hA.out.cR.lt, hA.out.cQ.below hbA hA.out.cQ.lt, ci_of (alloc_heapN (heap_alloc_new W _) _) rfl, hA.out.cW.below hbA hA.out.cW.lt, hA.out.cS.below hbA hA.out.cS.lt, hA.out.row.below hbA⟩
      have := heap_alloc_new (W.alloc (.cells #[.int .i64 1] 3)) (.cells #[.int .i64 0] 3)
      rw [World.size_alloc] at this
      exact ci_of this rfl
    have hb1 : Below w.heap.size w ((W.alloc (.cells #[.int .i64 1] 3)).alloc (.cells #[.int .i64 0] 3)) := (hB.out.alloc (by omega) _).alloc (by simp; omega) _
    have hk1 : ((W.alloc (.cells #[.int .i64 1] 3)).alloc (.cells #[.int .i64 0] 3)).heap[D1]? = some (.deferred (some [])) := alloc_heapN (alloc_heapN hK1.out _) _
    have hz1 : ((W.alloc (.cells #[.int .i64 1] 3)).alloc (.cells #[.int .i64 0] 3)).heap.size = W.heap.size + 2 := by simp
    generalize ((W.alloc (.cells #[.int .i64 1] 3)).alloc (.cells #[.int .i64 0] 3)) = WB at hA1 hb1 hk1 hz1 ⊢
    clear hA hB hK1 a1 a2 d1 d2 f1 f2
    generalize W.heap.size = bT at hWs hDl hA1 hz1 ⊢
    refine wpIn_rangeFunc_ownF (F := Fence.wide) rfl (by decide) (gf := 23) (lb := #[.pointer (some ⟨w2.heap.size + 1, 0, none⟩)]) rfl trivial (enters_of Try.func23 (by kernel_rfl) rfl)
      (by have := all_stops 7 (by decide) (w2.heap.size + 1) (bs s1) (by rw [bs_length]; exact z1) WB (by omega) hA1.cS.cell; rw [← hlsH.out] at this; exact this) (fun _ _ => trivial) (fun _ _ _ _ _ _ _ _ => trivial) (Below.refl _ _) (fun _ => rfl)
      (fun pre W => (AS w.heap.size w2.heap.size q n0 cv av s1 ls 1 bT (bT + 1) (pre.length : Int) W ∧ Below w.heap.size w W) ∧ W.heap[D1]? = some (.deferred (some [])))
      (fun c pre W => c = .ret ∧ (¬ (pre <+: numbered 1 ls) ∨ ((CI W (w.heap.size + 1) 0 (.bool true) ∧ Below w.heap.size w W) ∧ W.heap[D1]? = some (.deferred (some [])))))
      (OwnFrom.and (OwnFrom.and (Own.from (fun s A B row hs hg hr => hs.kept hg hr) _) (ownFrom_below (Nat.le_refl _) (by omega))) (ownFrom_def (by omega)))
      (fun c s A B row hs hg hr => ⟨hs.1, hs.2.imp id (fun h => ⟨⟨h.1.1.kept hg (fun r e => (hr r e).2), ownFrom_below (β := Unit) (w₀ := w) (Nat.le_refl _) (by omega) () A B row h.1.2 hg hr⟩, ownFrom_def (β := Unit) (by omega) () A B row h.2 hg hr⟩)⟩)
      ⟨⟨hA1, hb1⟩, hk1⟩
      (fun x => { tmps := List.toArray (.string s1 :: .int .i64 st :: undef :: .pointer (some ⟨w.heap.size, 0, none⟩) :: .pointer (some ⟨w.heap.size + 1, 0, none⟩) :: .pointer (some ⟨w2.heap.size, 0, none⟩) :: .func (.func 23) #[] #[.pointer (some ⟨w2.heap.size + 1, 0, none⟩)] :: .pointer (some ⟨bT, 0, none⟩) :: .pointer (some ⟨bT + 1, 0, none⟩) :: .int .i64 x.1.1 :: .string x.1.2 :: .string s :: .string s1 :: .string s1 :: .slice av n0 cv :: .string s1 :: .func (.func 23) #[] #[.pointer (some ⟨w2.heap.size + 1, 0, none⟩)] :: .func (.func 23) #[] #[.pointer (some ⟨w2.heap.size + 1, 0, none⟩)] :: .bool false :: .int .i64 st :: .int .i64 (q : Int) :: .int .i64 1 :: .bool true :: .int .i64 0 :: .int .i64 1 :: .func (.func 23) #[] #[.pointer (some ⟨w2.heap.size + 1, 0, none⟩)] :: .int .i64 x.1.1 :: .string x.1.2 :: undef :: undef :: undef :: undef :: undef :: undef :: undef :: undef :: undef :: undef :: undef :: undef :: undef :: undef :: undef :: undef :: undef :: undef :: undef :: undef :: undef :: undef :: undef :: undef :: undef :: undef :: undef :: undef :: .int .i64 (n0 : Int) :: .slice av n0 cv :: .int .i64 (n0 : Int) :: .bool false :: .int .i64 0 :: undef :: []), defers := [] }) ?assign2 ?body2 ?done2 ?stop2
    case assign2 =>
      intro l x W K hK
      gi_wp2
      exact hK
    case body2 =>
      rintro l pre x W ⟨⟨hA, hB⟩, hk1'⟩ hlt
      replace hlt : pre.length < ls.length := hlt
      obtain ⟨ln, hln⟩ : ∃ ln, ls[pre.length]? = some ln := ⟨ls[pre.length], List.getElem?_eq_getElem hlt⟩
      have hll := hlm.2 ln (List.mem_of_getElem? hln)
      obtain ⟨gw, hav, hc⟩ := hA.row pre.length ln hln
      have hg := hgw.out _ hav
      subst hav
      have hgl : gw < w2.heap.size := hg.2
      have hlti : (pre.length : Int) < (n0 : Int) := by rw [hnH.out]; omega
      have hd : decide ((n0 : Int) ≤ (pre.length : Int)) = false := by simp; omega
      have hpl : (pre.length : Int) ≤ 3000 := by have := hlm.1; omega
      have hno : Hid (¬ (x.1.1 = (pre.length : Int) + 1 ∧ x.1.2 = str ln) → ¬ (pre ++ [x]) <+: numbered 1 ls) := fun h1 h2 => h1 (by
        obtain ⟨k1, l', k2, k3⟩ := numbered_at 1 ls pre x h2
        rw [hln] at k2
        cases k2
        refine ⟨by rw [k1]; push_cast; omega, by rw [k3, mkA_str _ _ hll]⟩)
      have e1 := str_toList ln
      obtain ⟨a1, a2⟩ := hA.cN
      obtain ⟨b1, b2⟩ := hA.cR
      obtain ⟨c1, c2⟩ := hA.cQ
      obtain ⟨d1, d2⟩ := hA.cT
      obtain ⟨f1, f2⟩ := hA.cW
      have hAH := Hid.intro hA
      clear hA hg hln
      by_cases hx : x.1.1 = (pre.length : Int) + 1
      · have ht : (x.1.1 != (pre.length : Int) + 1) = false := by simp [hx]
        by_cases hy : x.1.2 = str ln
        · have hys : (x.1.2.toList == ln) = true := by rw [hy, e1]; simp
          clear hno hx hy
          by_cases hpq : pre.length = q
          · have hz : ((pre.length : Int) == (q : Int)) = true := by simp [hpq]
            clear hpq
            gi_wp2_with (refine ⟨trivial, ?_⟩; gi_at_call 11; refine (CallsIn.inRound l (callsIn_wide.2 (known_any _))).mono ?_; rintro e w6 ⟨rfl, hb6⟩; obtain ⟨r61, r62⟩ := hAH.out.cR.below hb6 hAH.out.cR.lt)
            refine ⟨(KeepsOthers.of_grownBy (grown_of_below hb6) (fun j o e => by cases e)).trans (KeepsOthers.setCell _ _ _), rfl, .inr ⟨⟨(CI.mk r61 r62).set _, (hB.trans (hb6.mono hB.size)).setCell (p := ⟨w.heap.size + 1, 0, none⟩) (by show w.heap.size ≤ w.heap.size + 1; omega) _⟩, ?_⟩⟩
            rw [heap_setCell_other _ _ _ _ (by show D1 ≠ w.heap.size + 1; omega), hb6.block D1 (Array.getElem?_eq_some_iff.1 hk1').1]
            exact hk1'
          · have hz : ((pre.length : Int) == (q : Int)) = false := by simp; omega
            clear hpq
            gi_wp2
            refine ⟨KeepsOthers.setCell _ _ _, trivial, ⟨?_, hB.setCell (p := ⟨bT + 1, 0, none⟩) (by show w.heap.size ≤ bT + 1; omega) _⟩, ?_⟩
            · have := hAH.out.setN ((pre.length : Int) + 1) (by omega) (by omega) (by omega) (fun x hx => (hgw.out x hx).2)
              rw [List.length_append, List.length_singleton]
              push_cast
              exact this
            · rw [heap_setCell_other _ _ _ _ (by show D1 ≠ bT + 1; omega)]
              exact hk1'
        · have hys : (x.1.2.toList == ln) = false := by
            rw [beq_eq_false_iff_ne]
            exact fun h => hy (by rw [← h]; exact (toList_str _).symm)
          have hn2 := Hid.intro (hno.out (fun h => hy h.2))
          clear hno hx hy
          gi_wp2
          exact ⟨KeepsOthers.setCell _ _ _, rfl, .inl hn2.out⟩
      · have ht : (x.1.1 != (pre.length : Int) + 1) = true := by simp [hx]
        have hn2 := Hid.intro (hno.out (fun h => hx h.1))
        clear hno hx
        gi_wp2
        exact ⟨KeepsOthers.setCell _ _ _, rfl, .inl hn2.out⟩
    case done2 =>
      rintro D2 ys W hD2 rfl ⟨⟨hA, hB⟩, hk1'⟩ hK2
      rw [numbered_len, ← hnH.out] at hA
      obtain ⟨a1, a2⟩ := hA.cN
      obtain ⟨d1, d2⟩ := hA.cT
      obtain ⟨f1, f2⟩ := hA.cW
      have hAc := Hid.intro hA.cR
      replace hA := Hid.intro hA
      replace hB := Hid.intro hB
      replace hk1' := Hid.intro hk1'
      replace hK2 := Hid.intro hK2
      gi_wp2
      rw [roundsIn_succ]
      gi_wp2_with (refine ⟨trivial, ?_⟩; gi_at_call 11; refine (callsIn_wide.2 (known_any _)).mono ?_; rintro e w6 ⟨rfl, hb6⟩; obtain ⟨r61, r62⟩ := (hAc.out.below (below_alloc W _) hAc.out.lt).below hb6 (by simp; have := hAc.out.lt; omega))
      have hDW := hK2.out
      have hlD2 : D2 < W.heap.size := (Array.getElem?_eq_some_iff.1 hDW).1
      have hlD1 : D1 < W.heap.size := (Array.getElem?_eq_some_iff.1 hk1'.out).1
      have same : ∀ k o, W.heap[k]? = some o → k ≠ w.heap.size + 1 → (w6.setCell ⟨w.heap.size + 1, 0, none⟩ (.bool true)).heap[k]? = some o := fun k o hk hne => by
        have hlk := (Array.getElem?_eq_some_iff.1 hk).1
        rw [heap_setCell_other _ _ _ _ hne, hb6.block k (by simp; omega), (below_alloc W _).block k hlk]
        exact hk
      have hK2f := same D2 _ hK2.out (by omega)
      have hK1g := same D1 _ hk1'.out (by omega)
      have hcell := ((CI.mk r61 r62).set (.bool true)).cell
      have hBf : Below w.heap.size w (w6.setCell ⟨w.heap.size + 1, 0, none⟩ (.bool true)) := (hB.out.trans ((one_below hb6).mono hB.out.size)).setCell (p := ⟨w.heap.size + 1, 0, none⟩) (by show w.heap.size ≤ w.heap.size + 1; omega) _
      clear same
      generalize (w6.setCell ⟨w.heap.size + 1, 0, none⟩ (.bool true)) = Wf at hK2f hK1g hcell hBf ⊢
      have hc1 := cell_kept hcell (grownBy_putObj' Wf D2 (.deferred none)) (fun r e => by cases e; exact ⟨_, hK2f, rfl⟩)
      have hK1f : (Wf.putObj D2 (.deferred none)).heap[D1]? = some (.deferred (some [])) := (World.putObj_heap_other (by omega)).trans hK1g
      have hc2 := cell_kept hc1 (grownBy_putObj' _ D1 (.deferred none)) (fun r e => by cases e; exact ⟨_, hK1f, rfl⟩)
      refine ⟨by simp, .inl ⟨_, _, rfl, run_takeDeferred hK2f, ⟨by simp, .inl ⟨_, _, rfl, run_takeDeferred hK1f, ?_⟩⟩⟩⟩
      refine ⟨.bool true, ?_, rfl, (hBf.trans (belowK_b (w := w) (Nat.le_refl _) _ D2 _ _ (by omega) hK2f rfl rfl)).trans (belowK_b (w := w) (Nat.le_refl _) _ D1 _ _ (by omega) hK1f rfl rfl)⟩
      simp [results, Try.results5, go_sem, hc2]
    case stop2 =>
      rintro D2 c pre W hD2 hpre ⟨rfl, h⟩ hK2
      rcases h with h | ⟨⟨hc, hB⟩, hk1'⟩
      · exact absurd hpre h
      · have hlD1 : D1 < W.heap.size := (Array.getElem?_eq_some_iff.1 hk1').1
        have hcell := hc.cell
        have hBf := hB
        have hK2f := hK2
        have hK1g := hk1'
        replace hcell := Hid.intro hcell
        replace hK2f := Hid.intro hK2f
        replace hK1g := Hid.intro hK1g
        clear hc hK2 hk1'
        gi_wp2
        replace hcell := hcell.out
        replace hK2f := hK2f.out
        replace hK1g := hK1g.out
        generalize W = Wf at hcell hBf hK2f hK1g ⊢
        have hc1 := cell_kept hcell (grownBy_putObj' Wf D2 (.deferred none)) (fun r e => by cases e; exact ⟨_, hK2f, rfl⟩)
        have hK1f : (Wf.putObj D2 (.deferred none)).heap[D1]? = some (.deferred (some [])) := (World.putObj_heap_other (by omega)).trans hK1g
        have hc2 := cell_kept hc1 (grownBy_putObj' _ D1 (.deferred none)) (fun r e => by cases e; exact ⟨_, hK1f, rfl⟩)
        refine ⟨by simp, .inl ⟨_, _, rfl, run_takeDeferred hK2f, ⟨by simp, .inl ⟨_, _, rfl, run_takeDeferred hK1f, ?_⟩⟩⟩⟩
        refine ⟨.bool true, ?_, rfl, (hBf.trans (belowK_b (w := w) (Nat.le_refl _) _ D2 _ _ (by omega) hK2f rfl rfl)).trans (belowK_b (w := w) (Nat.le_refl _) _ D1 _ _ (by omega) hK1f rfl rfl)⟩
        simp [results, Try.results5, go_sem, hc2]
  case stop =>
    rintro D c pre W hD hpre ⟨rfl, hno⟩ hK
    exact absurd hpre hno
end Go.Proofs.Ytdmhdhmclcogoaa
