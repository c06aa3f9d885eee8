/- decode.All: the iterator and its contract. -/
import Derived.RangeFuncNested
import Derived.RangeFuncBound
import Derived.RangeFuncCalls
import Derived.RangeFuncLeaves
import Derived.Shelf.Abstract
import Derived.Shelf.RegionOpen
import Derived.WalkKit
import Derived.OwnWalkIn
import Derived.TacticsInMore
import Derived.LoopNIn
import Derived.LoopIn
import Derived.Test.YthboapfbgdcdoaaDoorBackW
namespace Go.Proofs.YthboapfbgdcdoaaDoor
open Go.ChangeShapes Go.WideShapes Go.ChangeAt Go.RowKit Go.Shelf
set_option linter.unusedVariables false
set_option maxRecDepth 100000
attribute [local go_sem] Oper.semAt_some

theorem grown_of_below {w w' : World} (h : Below w.heap.size w w') : w.grownBy w' none := ⟨h.os, h.tape, h.output, h.size, fun k hk _ => h.block k hk⟩

theorem sl_ne0 (d : Nat) (x : Addr) (m c : Nat) (W : World) : (Op.equalIn (d + 1) 22 (Value.slice (some x) m c) (Value.slice none 0 0)).run Tryd.prog W = Result.ok false W := by
  simp [Op.equalIn, run_underlying Tryd.underlying22]
theorem sl_ne (x : Addr) (m c : Nat) (W : World) : Sem.run Tryd.prog (binOp BinOp.eql 22 (Value.slice (some x) m c) (Value.slice none 0 0)) W = Result.ok (Value.bool false) W := by
  have h : Sem.run Tryd.prog (Op.equal 22 (Value.slice (some x) m c) (Value.slice none 0 0)) W = Result.ok false W := sl_ne0 9999 x m c W
  simp [binOp, go_sem, h]

theorem clone_any (b off m c : Nat) (zs : List Int) (w : World) (hm : m = zs.length) (hl : Lies w (some ⟨b, off, none⟩) zs) (hml : m ≤ 100000) :
    Calls Tryd.prog 23 #[.slice (some ⟨b, off, none⟩) m c] w fun e w' => ∃ a' k' c', e = .returned (.slice a' k' c') ∧ SlB w' w.heap.size a' k' c' zs ∧ Below w.heap.size w w' := by
  have hlb := Hid.intro (hl.below (below_alloc w (.cells #[] 5)))
  have hmH := Hid.intro hm
  have hk : Hid (([] : List Int).length + zs.length ≤ 140737488355328) := (show _ ≤ _ by simp; omega)
  clear hl hm
  have hne := sl_ne ⟨b, off, none⟩ m c
  go_enter Tryd.func23, Tryd.ntmps23
  go_wp2_with (at_builtin; (refine app_lies _ rfl (.tmp 5) (.tmp 6) rfl w.heap.size _ 0 0 [] (some ⟨b, off, none⟩) m c zs rfl rfl (sl_none w) hmH.out hlb.out (fun h => by cases h) hk.out (by simp) ?_); intro a3 k3 c3 w3 hs3 hb3; replace hb3 := Hid.intro ((below_alloc w (.cells #[] 5)).trans hb3); have hs3 := Hid.intro hs3)
  go_ret
  refine ⟨_, _, _, rfl, ?_, hb3.out⟩
  have := hs3.out
  rwa [List.nil_append] at this

/-- what is left of the bytes from a place on; none, if it is no place of theirs -/
def restL (zs : List Int) (at' : Int) : List Int := if 0 ≤ at' ∧ at' < zs.length then zs.drop at'.toNat else []

/-- what All hands out: a function over two boxes, one with a copy of the bytes, one with the place -/
structure SeqAt (w : World) (lo gr ga : Nat) (at' : Int) (R : List Int) (a : Option Addr) (m c : Nat) : Prop where
  hr : w.cell? ⟨gr, 0, none⟩ = some (.slice a m c)
  ha : w.cell? ⟨ga, 0, none⟩ = some (.int .i64 at')
  hs : SlB w lo a m c R

set_option maxHeartbeats 1000000 in
theorem dall_any (a : Option Addr) (m c : Nat) (zs : List Int) (at' : Int) (w : World) (hm : m = zs.length) (hl : Lies w a zs) (hc : m ≤ c) (hml : m ≤ 1000) (ha : -9223372036854775808 ≤ at' ∧ at' ≤ 9223372036854775807) :
    Calls Tryd.prog 9 #[.slice a m c, .int .i64 at'] w fun e w' => ∃ gr ga, e = .returned (.func (.func 24) #[] #[.pointer (some ⟨gr, 0, none⟩), .pointer (some ⟨ga, 0, none⟩)]) ∧ (∃ a' m' c', SeqAt w' w.heap.size gr ga at' (restL zs at') a' m' c') ∧ gr < w'.heap.size ∧ ga < w'.heap.size ∧ Below w.heap.size w w' := by
  have hmf : ∀ (fn : Fn) (first cap : Array Value) (w : World), (Instr.makeFunc fn first cap).run Tryd.prog w = .ok (.func fn first cap) w := fun _ _ _ _ => rfl
  by_cases h1 : 0 ≤ at'
  · obtain ⟨k, rfl⟩ : ∃ k : Nat, at' = k := ⟨at'.toNat, by omega⟩
    by_cases h2 : (k : Int) < m
    · have hR : restL zs (k : Int) = zs.drop k := by rw [restL, if_pos ⟨h1, by omega⟩, Int.toNat_natCast]
      rw [hR]
      obtain ⟨b, off, rfl⟩ : ∃ b off, a = some ⟨b, off, none⟩ := by
        rcases hl.2 with h | ⟨b, off, ha, _⟩
        · rw [h] at hm; simp at hm; omega
        · exact ⟨b, off, ha⟩
      have hsub := lies_sub hl k (m - k)
      have e1 : (zs.drop k).take (m - k) = zs.drop k := List.take_of_length_le (by simp; omega)
      rw [e1] at hsub
      have hlen : Hid (m - k = (zs.drop k).length) := (show _ = _ by simp; omega)
      generalize zs.drop k = R at *
      have hC := Hid.intro (fun W hW => clone_any b (off + k) (m - k) (c - k) R W hlen.out hW (by omega))
      have hsH := Hid.intro hsub
      have e2 : ¬ (c = k) := by omega
      have e3 : ¬ (k = c) := by omega
      have e4 : k ≤ c := by omega
      have e5 : (k : Int) ≤ (c : Int) := by omega
      have e6 : k ≤ m := by omega
      have e7 : (k : Int) ≤ (m : Int) := by omega
      clear hl hm hR e1 hsub
      go_enter Tryd.func9, Tryd.ntmps9
      have hn1 : Hid (∀ W, Below ((w.alloc (.cells #[.int .i64 (k : Int)] 3)).alloc (.cells #[.slice none 0 0] 22)).heap.size ((w.alloc (.cells #[.int .i64 (k : Int)] 3)).alloc (.cells #[.slice none 0 0] 22)) W → W.heap[w.heap.size]? = some (.cells #[.int .i64 (k : Int)] 3) ∧ W.heap[w.heap.size + 1]? = some (.cells #[.slice none 0 0] 22)) := by
        intro W hW
        have h0 := heap_alloc_new (w.alloc (.cells #[.int .i64 (k : Int)] 3)) (.cells #[.slice none 0 0] 22)
        rw [World.size_alloc] at h0
        have h1 := ((below_alloc (w.alloc (.cells #[.int .i64 (k : Int)] 3)) (.cells #[.slice none 0 0] 22)).block w.heap.size (by simp)).trans (heap_alloc_new w (.cells #[.int .i64 (k : Int)] 3))
        exact ⟨(hW.block _ (by simp; omega)).trans h1, (hW.block _ (by simp)).trans h0⟩
      go_wp2_with (go_at_call 23; (with_reducible refine (hC.out _ (hsH.out.below (chain2 (below_alloc w _) (below_alloc _ _)))).mono ?_); rintro e w1 ⟨a1, m1, c1, rfl, hs1, hb1⟩; have hb := Hid.intro (chain2 (chain2 (below_alloc w (.cells #[.int .i64 (k : Int)] 3)) (below_alloc _ (.cells #[.slice none 0 0] 22))) hb1); have hq := Hid.intro (hn1.out _ hb1); have y1 := (cell_block hq.out.2 0).trans rfl; have y2 := frozen_of_row w1 (w.heap.size + 1) 0 _ 22 hq.out.2; have hs1 := Hid.intro hs1; have hb1 := Hid.intro hb1)
      go_ret
      have hs2 : SlB (w1.setCell ⟨w.heap.size + 1, 0, none⟩ (.slice a1 m1 c1)) w.heap.size a1 m1 c1 R := by
        have h := hs1.out
        exact (SlB.mono (lo' := w.heap.size) ⟨h.len, ownsRow_setCell_below h.got (by simp) _, h.byt⟩ (by simp; omega))
      refine ⟨_, _, rfl, ⟨a1, m1, c1, World.cell?_setCell_same' _ _ _ (some_is y1), (World.cell?_setCell_other _ _ _ _ (by simp)).trans ((cell_block hq.out.1 0).trans rfl), hs2⟩, ?_, ?_, hb.out.setCell (by show w.heap.size ≤ w.heap.size + 1; omega) _⟩
      · have := hb1.out.size
        simp at this ⊢
        omega
      · have := hb1.out.size
        simp at this ⊢
        omega
    · have hR : restL zs (k : Int) = [] := by rw [restL, if_neg (by omega)]
      rw [hR]
      have hz1 : ((w.alloc (.cells #[.int .i64 (k : Int)] 3)).alloc (.cells #[.slice none 0 0] 22)).heap[w.heap.size + 1]? = some (.cells #[.slice none 0 0] 22) := by
        have := heap_alloc_new (w.alloc (.cells #[.int .i64 (k : Int)] 3)) (.cells #[.slice none 0 0] 22)
        rwa [World.size_alloc] at this
      have hz0 : ((w.alloc (.cells #[.int .i64 (k : Int)] 3)).alloc (.cells #[.slice none 0 0] 22)).heap[w.heap.size]? = some (.cells #[.int .i64 (k : Int)] 3) := ((below_alloc (w.alloc (.cells #[.int .i64 (k : Int)] 3)) (.cells #[.slice none 0 0] 22)).block w.heap.size (by simp)).trans (heap_alloc_new w (.cells #[.int .i64 (k : Int)] 3))
      have hz0H := Hid.intro hz0
      have hz1H := Hid.intro hz1
      clear hl hm hz0 hz1
      go_enter Tryd.func9, Tryd.ntmps9
      go_wp2
      go_ret
      exact ⟨_, _, rfl, ⟨none, 0, 0, (cell_block hz1H.out 0).trans rfl, (cell_block hz0H.out 0).trans rfl, ⟨rfl, World.ownsRow_nil _ _ _ _, fun z hz => by cases hz⟩⟩, by simp, by simp; omega, chain2 (below_alloc w _) (below_alloc _ _)⟩
  · have hR : restL zs at' = [] := by rw [restL, if_neg (by omega)]
    rw [hR]
    have hz1 : ((w.alloc (.cells #[.int .i64 at'] 3)).alloc (.cells #[.slice none 0 0] 22)).heap[w.heap.size + 1]? = some (.cells #[.slice none 0 0] 22) := by
      have := heap_alloc_new (w.alloc (.cells #[.int .i64 at'] 3)) (.cells #[.slice none 0 0] 22)
      rwa [World.size_alloc] at this
    have hz0 : ((w.alloc (.cells #[.int .i64 at'] 3)).alloc (.cells #[.slice none 0 0] 22)).heap[w.heap.size]? = some (.cells #[.int .i64 at'] 3) := ((below_alloc (w.alloc (.cells #[.int .i64 at'] 3)) (.cells #[.slice none 0 0] 22)).block w.heap.size (by simp)).trans (heap_alloc_new w (.cells #[.int .i64 at'] 3))
    have hz0H := Hid.intro hz0
    have hz1H := Hid.intro hz1
    clear hl hm hz0 hz1
    go_enter Tryd.func9, Tryd.ntmps9
    go_wp2
    go_ret
    exact ⟨_, _, rfl, ⟨none, 0, 0, (cell_block hz1H.out 0).trans rfl, (cell_block hz0H.out 0).trans rfl, ⟨rfl, World.ownsRow_nil _ _ _ _, fun z hz => by cases hz⟩⟩, by simp, by simp; omega, chain2 (below_alloc w _) (below_alloc _ _)⟩

/-- a step: the place, the length, the instruction -/
abbrev StA : Type := Int × Int × Ins
abbrev encS (x : StA) : Array Value := #[.agg #[.int .i64 x.1, .int .i64 x.2.1, .int .i64 x.2.2.o, .int .i64 x.2.2.a, .int .i64 x.2.2.b, .int .i32 x.2.2.n, .int .i64 x.2.2.f]]

/-- the steps from a place on -/
def seqF (R : List Int) (at' : Int) : Nat → Nat → List StA
  | 0, _ => []
  | n + 1, k => if decE R (k : Int) = 0 then (at' + k, decL R (k : Int), decX R (k : Int)) :: seqF R at' n (k + (decL R (k : Int)).toNat) else []

def stepsL (R : List Int) (at' : Int) : List StA := seqF R at' (R.length + 1) 0

theorem seqF_len (R : List Int) (at' : Int) (hR : AreBytes R) : ∀ n k : Nat, k ≤ R.length → (seqF R at' n k).length ≤ R.length - k
  | 0, k, _ => by simp [seqF]
  | n + 1, k, hk => by
    rw [seqF]
    split
    · rename_i h
      obtain ⟨k', l, e1, e2, e3, _, e5, _⟩ := dec_enc hR h
      obtain rfl : k = k' := by omega
      have := seqF_len R at' hR n (k + l) (by omega)
      rw [e2, Int.toNat_natCast, List.length_cons]
      omega
    · simp

set_option maxHeartbeats 2000000 in
theorem all_stops (n : Nat) (hn : 1 ≤ n) (n0 lo gr ga : Nat) (at' : Int) (R : List Int) (a : Option Addr) (m c : Nat) (w : World) (hT : Tab w) (hS : SeqAt w lo gr ga at' R a m c) (hg : gr < n0) (hga : ga < n0) (hb : ∀ b off, a = some ⟨b, off, none⟩ → b < n0) (h2 : 2 ≤ n0) (h0 : n0 ≤ w.heap.size) (hml : m ≤ 1000) (ha : 0 < m → -9223372036854774000 ≤ at' ∧ at' ≤ 9223372036854774000) :
    SeqStopsK Fence.wide n Tryd.prog 24 #[.pointer (some ⟨gr, 0, none⟩), .pointer (some ⟨ga, 0, none⟩)] encS (Below n0) (fun xs => xs = stepsL R at') (fun pre => pre <+: stepsL R at') (stepsL R at').length w := fun lp J Jx W hW hJ hJx hY hJ0 => by
  have hTW : Hid (∀ W', Below n0 W W' → Tab W' ∧ W'.cell? ⟨gr, 0, none⟩ = some (.slice a m c) ∧ W'.cell? ⟨ga, 0, none⟩ = some (.int .i64 at') ∧ Lies W' a R) := by
    intro W' hW'
    have hk : Below n0 w W' := (hW.mono h0).trans hW'
    refine ⟨hT.below hk h2, (hk.cell (p := ⟨gr, 0, none⟩) hg).trans hS.hr, (hk.cell (p := ⟨ga, 0, none⟩) hga).trans hS.ha, ?_⟩
    have hl := hS.hs.lies
    refine ⟨hl.1, ?_⟩
    rcases hl.2 with h | ⟨b, off, ha', hc⟩
    · exact .inl h
    · exact .inr ⟨b, off, ha', fun i hi => by rw [hk.cell (hb b off ha')]; exact hc i hi⟩
  have hRl : Hid (m = R.length) := hS.hs.len
  have hRb : Hid (AreBytes R) := hS.hs.byt
  have hcap : m ≤ c := hS.hs.cap
  clear hT hS hb
  refine callsIn_of_wp Tryd.func24 rfl trivial ?_ rfl
  simp only [Tryd.ntmps24, List.size_toArray, List.length_cons, List.length_nil, Nat.reduceAdd, Nat.reduceSub, Array.replicate_succ, Array.replicate_zero, List.push_toArray, List.append_toArray, List.nil_append, List.cons_append]
  gi_wp2
  have hsz0 : W.heap.size ≤ W.heap.size := Nat.le_refl _
  gi_loopw [4] (fun v4 wr => ∃ (pre : List StA) (k f : Nat), v4 = .int .i64 (k : Int) ∧ k ≤ m ∧ Hid (stepsL R at' = pre ++ seqF R at' f k) ∧ Hid (R.length < k + f) ∧ Hid (Below n0 W wr) ∧ Hid (J pre wr)) (fun v4 _ => m - (intOf v4).toNat)
  case atStart => exact ⟨[], 0, R.length + 1, rfl, by omega, rfl, (show _ < _ by omega), Below.refl _ _, hJ0⟩
  case round =>
    obtain ⟨pre, k, f, rfl, hk, hst, hf, hB, hJr⟩ := hrel
    obtain ⟨f, rfl⟩ : ∃ f', f = f' + 1 := ⟨f - 1, by have := hf.out; have := hRl.out; omega⟩
    obtain ⟨t1, t2, t3, t4⟩ := hTW.out wr hB.out
    have hDe := Hid.intro (decode_any a c m R (k : Int) wr hRl.out t1 t4 hcap (by omega) (by omega))
    unfold decV at hDe
    have hsq : Hid (seqF R at' (f + 1) k = if decE R (k : Int) = 0 then (at' + k, decL R (k : Int), decX R (k : Int)) :: seqF R at' f (k + (decL R (k : Int)).toNat) else []) := rfl
    clear t1 t4
    by_cases hE : decE R (k : Int) = 0
    · obtain ⟨k', l, e1, e2, e3, e4, e5, _, hok, _⟩ := dec_enc hRb.out hE
      obtain rfl : k = k' := by omega
      rw [if_pos hE, e2, Int.toNat_natCast] at hsq
      rw [hE, e2] at hDe
      generalize decX R (k : Int) = X at *
      obtain ⟨xo, xa, xb, xn, xf⟩ := X
      unfold Ins.val at hDe
      simp only at hDe
      have hst2 : Hid (stepsL R at' = (pre ++ [(at' + k, (l : Int), ⟨xo, xa, xb, xn, xf⟩)]) ++ seqF R at' f (k + l)) := (show _ = _ by rw [hst.out, hsq.out]; simp)
      have hlen : pre.length < (stepsL R at').length := by rw [hst2.out]; simp
      have ha2 := ha (by have := hRl.out; omega)
      have ew : wrap64 (at' + (k : Int)) = at' + k := by rw [wrap64]; omega
      have ew2 : IntKind.i64.wrap (at' + (k : Int)) = at' + k := by rw [IntKind.wrap_i64]; omega
      have hkl : Hid (k + l ≤ m) := (show _ ≤ _ by rw [hRl.out]; exact e5)
      have hl1 : Hid (1 ≤ l ∧ l ≤ 10) := ⟨e3, e4⟩
      have hl10 : (l : Int) ≤ 10 := by omega
      clear hE hst hsq e1 e2 e3 e4 e5 hok
      gi_wp2_with (first
        | (refine ⟨trivial, ?_⟩; gi_at_call 8; refine (callsIn_wide.2 hDe.out).mono ?_; rintro e w1 ⟨rfl, hb1⟩; (obtain ⟨i0, i1, i2, i3, i4, _⟩ := inst_new w1 xo xa xb xn xf; have hB1 := Hid.intro ((hB.out.trans (hb1.mono (by have := hB.out.size; have := hW.size; omega))).alloc (by have := hB.out.size; have := hW.size; have := hb1.size; omega) (.cells #[.int .i64 xo, .int .i64 xa, .int .i64 xb, .int .i32 xn, .int .i64 xf] 26)); obtain ⟨_, _, t3, _⟩ := hTW.out _ hB1.out; have hJ1 := Hid.intro (hJ pre _ _ none (hJ pre _ _ none hJr.out (grown_of_below hb1) (fun r e => by cases e)) (grown_of_below (below_alloc w1 (.cells #[.int .i64 xo, .int .i64 xa, .int .i64 xb, .int .i32 xn, .int .i64 xf] 26))) (fun r e => by cases e)); obtain ⟨fn, tmps, assign, body, hy, hR⟩ := hY pre (at' + k, (l : Int), ⟨xo, xa, xb, xn, xf⟩) _ hJ1.out hlen; replace hR := Hid.intro hR; replace hb1 := Hid.intro hb1)))
      refine hR.out.mono ?_
      rintro e W3 (⟨rfl, hJ3, hK3⟩ | ⟨rfl, hJx3⟩)
      · have hB3 := Hid.intro (hB1.out.trans hK3)
        have hJ3H := Hid.intro hJ3
        have hf2 : Hid (R.length < k + l + f) := (show _ < _ by have := hf.out; have := hl1.out; omega)
        gi_wp2
        go_roundw
        case rel => exact ⟨pre ++ [(at' + k, (l : Int), ⟨xo, xa, xb, xn, xf⟩)], k + l, f, by go_num, hkl.out, hst2, hf2, hB3, hJ3H⟩
        case measure =>
          have := hl1.out
          have := hkl.out
          simp [intOf]
          omega
      · gi_wp2
        refine bodyPost_ret (results_none rfl _ _ _) rfl ?_
        exact ⟨⟨_, rfl⟩, .inr ⟨pre ++ [(at' + k, (l : Int), ⟨xo, xa, xb, xn, xf⟩)], ⟨_, hst2.out.symm⟩, hJx3⟩⟩
    · rw [if_neg hE] at hsq
      generalize decX R (k : Int) = X at *
      obtain ⟨xo, xa, xb, xn, xf⟩ := X
      unfold Ins.val at hDe
      simp only at hDe
      generalize decL R (k : Int) = L at *
      generalize decE R (k : Int) = E at *
      have e0 : (E == 0) = false := by simpa using hE
      have e1 : (E != 0) = true := by simpa using hE
      have hdone : Hid (pre = stepsL R at') := (show _ = _ by rw [hst.out, hsq.out, List.append_nil])
      clear hE hst hsq
      gi_wp2_with (refine ⟨trivial, ?_⟩; gi_at_call 8; refine (callsIn_wide.2 hDe.out).mono ?_; rintro e w1 ⟨rfl, hb1⟩; replace hb1 := Hid.intro hb1)
      refine ⟨fun _ h => (by cases h), ?_⟩
      gi_wp2
      refine bodyPost_ret (results_none rfl _ _ _) rfl ?_
      exact ⟨⟨_, rfl⟩, .inl ⟨pre, hdone.out, hJ pre _ _ none (hJ pre _ _ none hJr.out (grown_of_below hb1.out) (fun r e => by cases e)) (grown_of_below (below_alloc w1 _)) (fun r e => by cases e)⟩⟩

theorem Tryd.seq31 : Tryd.prog.underlying 31 = some (.func #[58] #[] false) := by kernel_rfl
theorem seq_eq (d : Nat) (b b2 : Option Addr) (W : World) : (Op.equalIn (d + 1) 31 (Value.func (Fn.func 24) #[] #[Value.pointer b, Value.pointer b2]) Value.nilFunc).run Tryd.prog W = Result.ok false W := by
  simp [Op.equalIn, run_underlying Tryd.seq31]
theorem seq_some (b b2 : Option Addr) (W : World) : Sem.run Tryd.prog (binOp BinOp.eql 31 (Value.func (Fn.func 24) #[] #[Value.pointer b, Value.pointer b2]) Value.nilFunc) W = Result.ok (Value.bool false) W := by
  have h : Sem.run Tryd.prog (Op.equal 31 (Value.func (Fn.func 24) #[] #[Value.pointer b, Value.pointer b2]) Value.nilFunc) W = Result.ok false W := seq_eq 9999 b b2 W
  simp [binOp, go_sem, h]
end Go.Proofs.YthboapfbgdcdoaaDoor
