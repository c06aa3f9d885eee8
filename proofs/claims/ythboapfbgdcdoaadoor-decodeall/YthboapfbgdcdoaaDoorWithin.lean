/- The walk of LineAll. -/
import Derived.Test.YthboapfbgdcdoaaDoorRowM
/- What decode.All hands out, against the document's Decode at one place after the other. -/
namespace Go.Proofs.YthboapfbgdcdoaaDoor
open Go.ChangeShapes Go.WideShapes Go.ChangeAt Go.RowKit Go.Shelf
set_option linter.unusedVariables false
set_option maxRecDepth 100000

theorem wrap64_range (x : Int) : -9223372036854775808 ≤ wrap64 x ∧ wrap64 x ≤ 9223372036854775807 := by rw [wrap64]; omega
theorem endF_range : ∀ (pre : List StA) (o : Int), -9223372036854775808 ≤ o ∧ o ≤ 9223372036854775807 → -9223372036854775808 ≤ endF o pre ∧ endF o pre ≤ 9223372036854775807
  | [], o, h => h
  | x :: pre, o, h => endF_range pre _ (wrap64_range _)

theorem drop_getD (zs : List Int) (k j : Nat) : (zs.drop k).getD j 0 = zs.getD (k + j) 0 := by
  rw [List.getD_eq_getElem?_getD, List.getD_eq_getElem?_getD, List.getElem?_drop]
theorem drop_raw (zs : List Int) (k j : Nat) : rawI (zs.drop k) j = rawI zs (k + j) := by
  have e : rstL (zs.drop k) j = rstL zs (k + j) := by
    unfold rstL
    rw [drop_getD, List.drop_drop, Nat.add_assoc]
  unfold rawI
  rw [e, drop_getD]
theorem drop_hd (zs : List Int) (k j : Nat) (hk : k ≤ zs.length) : hdE (zs.drop k) (j : Int) = hdE zs ((k + j : Nat) : Int) := by
  unfold hdE
  rw [Int.toNat_natCast, Int.toNat_natCast, drop_getD]
  have hl : ((zs.drop k).length : Int) = (zs.length : Int) - k := by rw [List.length_drop]; omega
  rw [hl]
  generalize sizI (zs.getD (k + j) 0) = S
  generalize begI (zs.getD (k + j) 0) = G
  have c1 : ((j : Int) < 0 ∨ (zs.length : Int) - k < (j : Int)) ↔ (((k + j : Nat) : Int) < 0 ∨ (zs.length : Int) < ((k + j : Nat) : Int)) := by omega
  have c2 : ((j : Int) = (zs.length : Int) - k) ↔ (((k + j : Nat) : Int) = zs.length) := by omega
  have c3 : ((zs.length : Int) - k - (j : Int) < S) ↔ ((zs.length : Int) - ((k + j : Nat) : Int) < S) := by omega
  simp only [c1, c2, c3]
theorem drop_dec (zs : List Int) (k j : Nat) (hk : k ≤ zs.length) : decE (zs.drop k) (j : Int) = decE zs ((k + j : Nat) : Int) ∧ decL (zs.drop k) (j : Int) = decL zs ((k + j : Nat) : Int) ∧ decX (zs.drop k) (j : Int) = decX zs ((k + j : Nat) : Int) := by
  have e : decE (zs.drop k) (j : Int) = decE zs ((k + j : Nat) : Int) := by
    unfold decE
    rw [drop_hd zs k j hk, Int.toNat_natCast, Int.toNat_natCast, drop_raw]
  refine ⟨e, ?_, ?_⟩
  · unfold decL
    rw [e, Int.toNat_natCast, Int.toNat_natCast, drop_getD]
  · unfold decX
    rw [e, Int.toNat_natCast, Int.toNat_natCast, drop_raw]

theorem seqF_at (R : List Int) (hR : AreBytes R) (o : Int) (ho : 0 ≤ o) (hb : o + R.length ≤ 1000000) : ∀ (f j : Nat) (pre : List StA) (x : StA), j ≤ R.length → (pre ++ [x]) <+: seqF R o f j → ∃ K : Nat, K ≤ R.length ∧ x = (o + K, decL R (K : Int), decX R (K : Int)) ∧ decE R (K : Int) = 0 ∧ endF (o + j) pre = o + K
  | 0, j, pre, x, _, h => by
    obtain ⟨r, hr⟩ := h
    simp [seqF] at hr
  | f + 1, j, pre, x, hj, h => by
    rw [seqF] at h
    by_cases hE : decE R (j : Int) = 0
    · rw [if_pos hE] at h
      obtain ⟨k', l, e1, e2, e3, _, e5, _⟩ := dec_enc hR hE
      obtain rfl : j = k' := by omega
      obtain ⟨r, hr⟩ := h
      cases pre with
      | nil =>
        simp only [List.nil_append, List.singleton_append, List.cons.injEq] at hr
        exact ⟨j, hj, hr.1, hE, rfl⟩
      | cons y pre =>
        simp only [List.cons_append, List.cons.injEq] at hr
        rw [e2, Int.toNat_natCast] at hr
        obtain ⟨K, h1, h2, h3, h4⟩ := seqF_at R hR o ho hb f (j + l) pre x (by omega) ⟨r, hr.2⟩
        refine ⟨K, h1, h2, h3, ?_⟩
        rw [hr.1]
        show endF (wrap64 (o + (j : Int) + (l : Int))) pre = _
        rw [wrap64_id _ (by omega), ← h4]
        congr 1
        push_cast
        omega
    · rw [if_neg hE] at h
      obtain ⟨r, hr⟩ := h
      simp at hr

theorem seqF_end (R : List Int) (hR : AreBytes R) (o : Int) (ho : 0 ≤ o) (hb : o + R.length ≤ 1000000) : ∀ (f j : Nat), R.length < j + f → j ≤ R.length → ∃ K : Nat, K ≤ R.length ∧ endF (o + j) (seqF R o f j) = o + K ∧ decE R (K : Int) ≠ 0
  | 0, j, h, hj => by omega
  | f + 1, j, h, hj => by
    rw [seqF]
    by_cases hE : decE R (j : Int) = 0
    · rw [if_pos hE]
      obtain ⟨k', l, e1, e2, e3, _, e5, _⟩ := dec_enc hR hE
      obtain rfl : j = k' := by omega
      rw [e2, Int.toNat_natCast]
      obtain ⟨K, h1, h2, h3⟩ := seqF_end R hR o ho hb f (j + l) (by omega) (by omega)
      refine ⟨K, h1, ?_, h3⟩
      show endF (wrap64 (o + (j : Int) + (l : Int))) _ = _
      rw [wrap64_id _ (by omega), ← h2]
      congr 1
      push_cast
      omega
    · rw [if_neg hE]
      exact ⟨j, hj, rfl, hE⟩

theorem dec_nil : decE [] ((0 : Nat) : Int) ≠ 0 := by decide +kernel
theorem dec_out {zs : List Int} {at' : Int} (h : ¬ (0 ≤ at' ∧ at' < zs.length)) : decE zs at' ≠ 0 := by
  have : hdE zs at' = 1 ∨ hdE zs at' = 10 := by
    unfold hdE
    by_cases h1 : at' < 0 ∨ (zs.length : Int) < at'
    · rw [if_pos h1]; exact .inl rfl
    · rw [if_neg h1, if_pos (by omega)]; exact .inr rfl
  rw [decE, if_neg (by omega)]
  omega

/-- the steps of the bytes from a place on -/
def stp (zs : List Int) (at' : Int) : List StA := stepsL (restL zs at') at'

theorem stp_at {zs : List Int} (hz : AreBytes zs) (hl : zs.length ≤ 1000) {at' : Int} {pre : List StA} {x : StA} (h : (pre ++ [x]) <+: stp zs at') : decE zs (endF at' pre) = 0 ∧ x = (endF at' pre, decL zs (endF at' pre), decX zs (endF at' pre)) := by
  unfold stp at h
  by_cases hin : 0 ≤ at' ∧ at' < zs.length
  · have hr : restL zs at' = zs.drop at'.toNat := by rw [restL, if_pos hin]
    rw [hr] at h
    obtain ⟨a, rfl⟩ : ∃ a : Nat, at' = a := ⟨at'.toNat, by omega⟩
    rw [Int.toNat_natCast] at h
    obtain ⟨K, h1, h2, h3, h4⟩ := seqF_at (zs.drop a) (areBytes_drop _ hz _) a (by omega) (by rw [List.length_drop]; omega) _ 0 pre x (by omega) h
    obtain ⟨d1, d2, d3⟩ := drop_dec zs a K (by omega)
    rw [d1] at h3
    rw [d2, d3] at h2
    have e : endF (a : Int) pre = ((a + K : Nat) : Int) := by
      have : (a : Int) + ((0 : Nat) : Int) = a := by omega
      rw [this] at h4
      rw [h4]; omega
    rw [e]
    refine ⟨h3, ?_⟩
    rw [h2]
    congr 1
  · have hr : restL zs at' = [] := by rw [restL, if_neg hin]
    rw [hr] at h
    obtain ⟨r, hr2⟩ := h
    rw [show stepsL [] at' = [] by unfold stepsL; rw [show ([] : List Int).length + 1 = 0 + 1 from rfl, seqF, if_neg dec_nil]] at hr2
    simp at hr2

theorem stp_end {zs : List Int} (hz : AreBytes zs) (hl : zs.length ≤ 1000) (at' : Int) : decE zs (endF at' (stp zs at')) ≠ 0 := by
  unfold stp
  by_cases hin : 0 ≤ at' ∧ at' < zs.length
  · have hr : restL zs at' = zs.drop at'.toNat := by rw [restL, if_pos hin]
    rw [hr]
    obtain ⟨a, rfl⟩ : ∃ a : Nat, at' = a := ⟨at'.toNat, by omega⟩
    rw [Int.toNat_natCast]
    obtain ⟨K, h1, h2, h3⟩ := seqF_end (zs.drop a) (areBytes_drop _ hz _) a (by omega) (by rw [List.length_drop]; omega) ((zs.drop a).length + 1) 0 (by omega) (by omega)
    rw [(drop_dec zs a K (by omega)).1] at h3
    have e : endF (a : Int) (stepsL (zs.drop a) a) = ((a + K : Nat) : Int) := by
      have : (a : Int) + ((0 : Nat) : Int) = a := by omega
      rw [this] at h2
      unfold stepsL
      rw [h2]; omega
    rw [e]
    exact h3
  · have hr : restL zs at' = [] := by rw [restL, if_neg hin]
    rw [hr, show stepsL [] at' = [] by unfold stepsL; rw [show ([] : List Int).length + 1 = 0 + 1 from rfl, seqF, if_neg dec_nil]]
    exact dec_out hin
theorem stp_len {zs : List Int} (hz : AreBytes zs) (at' : Int) : (stp zs at').length ≤ zs.length := by
  unfold stp stepsL
  have hrl : (restL zs at').length ≤ zs.length := by unfold restL; split <;> simp
  have hrb : AreBytes (restL zs at') := by unfold restL; split; exact areBytes_drop _ hz _; exact fun z hz => by cases hz
  have := seqF_len (restL zs at') at' hrb ((restL zs at').length + 1) 0 (by omega)
  omega
end Go.Proofs.YthboapfbgdcdoaaDoor
/- decode.All once more: where its boxes lie. -/
namespace Go.Proofs.YthboapfbgdcdoaaDoor
open Go.ChangeShapes Go.WideShapes Go.ChangeAt Go.RowKit Go.Shelf
set_option linter.unusedVariables false
set_option maxRecDepth 100000
attribute [local go_sem] Oper.semAt_some

set_option maxHeartbeats 1000000 in
theorem dall_lo (a : Option Addr) (m c : Nat) (zs : List Int) (at' : Int) (w : World) (hm : m = zs.length) (hl : Lies w a zs) (hc : m ≤ c) (hml : m ≤ 1000) (ha : -9223372036854775808 ≤ at' ∧ at' ≤ 9223372036854775807) :
    Calls Tryd.prog 9 #[.slice a m c, .int .i64 at'] w fun e w' => ∃ gr ga, e = .returned (.func (.func 24) #[] #[.pointer (some ⟨gr, 0, none⟩), .pointer (some ⟨ga, 0, none⟩)]) ∧ (∃ a' m' c', SeqAt w' w.heap.size gr ga at' (restL zs at') a' m' c') ∧ gr < w'.heap.size ∧ ga < w'.heap.size ∧ Below w.heap.size w w' ∧ w.heap.size ≤ gr ∧ w.heap.size ≤ ga := by
  have hmf : ∀ (fn : Fn) (first cap : Array Value) (w : World), (Instr.makeFunc fn first cap).run Tryd.prog w = .ok (.func fn first cap) w := fun _ _ _ _ => rfl
  by_cases h1 : 0 ≤ at'
  · obtain ⟨k, rfl⟩ : ∃ k : Nat, at' = k := ⟨at'.toNat, by omega⟩
    by_cases h2 : (k : Int) < m
    · have hR : restL zs (k : Int) = zs.drop k := by rw [restL, if_pos ⟨h1, by omega⟩, Int.toNat_natCast]
      rw [hR]
      obtain ⟨b, off, rfl⟩ : ∃ b off, a = some ⟨b, off, none⟩ := by
        rcases hl.2 with h | ⟨b, off, ha, _⟩
        · rw [h] at hm; simp at hm; omega
        · exact ⟨b, off, ha⟩
      have hsub := lies_sub hl k (m - k)
      have e1 : (zs.drop k).take (m - k) = zs.drop k := List.take_of_length_le (by simp; omega)
      rw [e1] at hsub
      have hlen : Hid (m - k = (zs.drop k).length) := (show _ = _ by simp; omega)
      generalize zs.drop k = R at *
      have hC := Hid.intro (fun W hW => clone_any b (off + k) (m - k) (c - k) R W hlen.out hW (by omega))
      have hsH := Hid.intro hsub
      have e2 : ¬ (c = k) := by omega
      have e3 : ¬ (k = c) := by omega
      have e4 : k ≤ c := by omega
      have e5 : (k : Int) ≤ (c : Int) := by omega
      have e6 : k ≤ m := by omega
      have e7 : (k : Int) ≤ (m : Int) := by omega
      clear hl hm hR e1 hsub
      go_enter Tryd.func9, Tryd.ntmps9
      have hn1 : Hid (∀ W, Below ((w.alloc (.cells #[.int .i64 (k : Int)] 3)).alloc (.cells #[.slice none 0 0] 22)).heap.size ((w.alloc (.cells #[.int .i64 (k : Int)] 3)).alloc (.cells #[.slice none 0 0] 22)) W → W.heap[w.heap.size]? = some (.cells #[.int .i64 (k : Int)] 3) ∧ W.heap[w.heap.size + 1]? = some (.cells #[.slice none 0 0] 22)) := by
        intro W hW
        have h0 := heap_alloc_new (w.alloc (.cells #[.int .i64 (k : Int)] 3)) (.cells #[.slice none 0 0] 22)
        rw [World.size_alloc] at h0
        have h1 := ((below_alloc (w.alloc (.cells #[.int .i64 (k : Int)] 3)) (.cells #[.slice none 0 0] 22)).block w.heap.size (by simp)).trans (heap_alloc_new w (.cells #[.int .i64 (k : Int)] 3))
        exact ⟨(hW.block _ (by simp; omega)).trans h1, (hW.block _ (by simp)).trans h0⟩
      go_wp2_with (go_at_call 23; (with_reducible refine (hC.out _ (hsH.out.below (chain2 (below_alloc w _) (below_alloc _ _)))).mono ?_); rintro e w1 ⟨a1, m1, c1, rfl, hs1, hb1⟩; have hb := Hid.intro (chain2 (chain2 (below_alloc w (.cells #[.int .i64 (k : Int)] 3)) (below_alloc _ (.cells #[.slice none 0 0] 22))) hb1); have hq := Hid.intro (hn1.out _ hb1); have y1 := (cell_block hq.out.2 0).trans rfl; have y2 := frozen_of_row w1 (w.heap.size + 1) 0 _ 22 hq.out.2; have hs1 := Hid.intro hs1; have hb1 := Hid.intro hb1)
      go_ret
      have hs2 : SlB (w1.setCell ⟨w.heap.size + 1, 0, none⟩ (.slice a1 m1 c1)) w.heap.size a1 m1 c1 R := by
        have h := hs1.out
        exact (SlB.mono (lo' := w.heap.size) ⟨h.len, ownsRow_setCell_below h.got (by simp) _, h.byt⟩ (by simp; omega))
      refine ⟨_, _, rfl, ⟨a1, m1, c1, World.cell?_setCell_same' _ _ _ (some_is y1), (World.cell?_setCell_other _ _ _ _ (by simp)).trans ((cell_block hq.out.1 0).trans rfl), hs2⟩, ?_, ?_, hb.out.setCell (by show w.heap.size ≤ w.heap.size + 1; omega) _, by omega, Nat.le_refl _⟩
      · have := hb1.out.size
        simp at this ⊢
        omega
      · have := hb1.out.size
        simp at this ⊢
        omega
    · have hR : restL zs (k : Int) = [] := by rw [restL, if_neg (by omega)]
      rw [hR]
      have hz1 : ((w.alloc (.cells #[.int .i64 (k : Int)] 3)).alloc (.cells #[.slice none 0 0] 22)).heap[w.heap.size + 1]? = some (.cells #[.slice none 0 0] 22) := by
        have := heap_alloc_new (w.alloc (.cells #[.int .i64 (k : Int)] 3)) (.cells #[.slice none 0 0] 22)
        rwa [World.size_alloc] at this
      have hz0 : ((w.alloc (.cells #[.int .i64 (k : Int)] 3)).alloc (.cells #[.slice none 0 0] 22)).heap[w.heap.size]? = some (.cells #[.int .i64 (k : Int)] 3) := ((below_alloc (w.alloc (.cells #[.int .i64 (k : Int)] 3)) (.cells #[.slice none 0 0] 22)).block w.heap.size (by simp)).trans (heap_alloc_new w (.cells #[.int .i64 (k : Int)] 3))
      have hz0H := Hid.intro hz0
      have hz1H := Hid.intro hz1
      clear hl hm hz0 hz1
      go_enter Tryd.func9, Tryd.ntmps9
      go_wp2
      go_ret
      exact ⟨_, _, rfl, ⟨none, 0, 0, (cell_block hz1H.out 0).trans rfl, (cell_block hz0H.out 0).trans rfl, ⟨rfl, World.ownsRow_nil _ _ _ _, fun z hz => by cases hz⟩⟩, by simp, by simp; omega, chain2 (below_alloc w _) (below_alloc _ _), by omega, Nat.le_refl _⟩
  · have hR : restL zs at' = [] := by rw [restL, if_neg (by omega)]
    rw [hR]
    have hz1 : ((w.alloc (.cells #[.int .i64 at'] 3)).alloc (.cells #[.slice none 0 0] 22)).heap[w.heap.size + 1]? = some (.cells #[.slice none 0 0] 22) := by
      have := heap_alloc_new (w.alloc (.cells #[.int .i64 at'] 3)) (.cells #[.slice none 0 0] 22)
      rwa [World.size_alloc] at this
    have hz0 : ((w.alloc (.cells #[.int .i64 at'] 3)).alloc (.cells #[.slice none 0 0] 22)).heap[w.heap.size]? = some (.cells #[.int .i64 at'] 3) := ((below_alloc (w.alloc (.cells #[.int .i64 at'] 3)) (.cells #[.slice none 0 0] 22)).block w.heap.size (by simp)).trans (heap_alloc_new w (.cells #[.int .i64 at'] 3))
    have hz0H := Hid.intro hz0
    have hz1H := Hid.intro hz1
    clear hl hm hz0 hz1
    go_enter Tryd.func9, Tryd.ntmps9
    go_wp2
    go_ret
    exact ⟨_, _, rfl, ⟨none, 0, 0, (cell_block hz1H.out 0).trans rfl, (cell_block hz0H.out 0).trans rfl, ⟨rfl, World.ownsRow_nil _ _ _ _, fun z hz => by cases hz⟩⟩, by simp, by simp; omega, chain2 (below_alloc w _) (below_alloc _ _), by omega, Nat.le_refl _⟩

end Go.Proofs.YthboapfbgdcdoaaDoor
namespace Go.Proofs.YthboapfbgdcdoaaDoor
open Go.ChangeShapes Go.WideShapes Go.ChangeAt Go.RowKit Go.Shelf
set_option linter.unusedVariables false
set_option maxRecDepth 100000
attribute [local go_sem] Oper.semAt_some

theorem within_any (a : Int) (ha : -9223372036854775808 ≤ a) (hb : a ≤ 9223372036854775807) : ∃ q : Nat, q ≤ 20 ∧ ∀ w, Calls Tryd.prog 15 #[.int .i64 a, .int .i64 0, .int .i64 20] w fun e w' => e = .returned (.int .i64 (q : Int)) ∧ w' = w := by
  have h1 : a.tmod 21 < 21 := Int.tmod_lt_of_pos a (by decide)
  have h2 : -21 < a.tmod 21 := Int.lt_tmod_of_pos a (by decide)
  by_cases h : a.tmod 21 < 0
  · refine ⟨(a.tmod 21 + 21).toNat, by omega, fun w => ?_⟩
    have e : (((a.tmod 21 + 21).toNat : Nat) : Int) = a.tmod 21 + 21 := by omega
    rw [e]
    go_enter Tryd.func15, Tryd.ntmps15
    go_wp2
    go_ret
    refine ⟨?_, rfl⟩
    show Ending.returned (Value.int .i64 (a.tmod 21 + 20 + 1)) = _
    rw [show a.tmod 21 + 20 + 1 = a.tmod 21 + 21 by omega]
  · refine ⟨(a.tmod 21).toNat, by omega, fun w => ?_⟩
    have e : (((a.tmod 21).toNat : Nat) : Int) = a.tmod 21 := by omega
    rw [e]
    go_enter Tryd.func15, Tryd.ntmps15
    go_wp2
    all_goals first | omega | skip
    go_ret
    exact ⟨rfl, rfl⟩

section
variable {ws w2s q n0 cv : Nat} {av : Option Addr} {s1 : ByteArray} {ls : List (List UInt8)} {T : Int} {bT bN : Nat} {n : Int}
end

end Go.Proofs.YthboapfbgdcdoaaDoor
