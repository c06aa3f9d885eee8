/- How equs that came in are opened. -/
import Derived.Test.YtebbbefknfldoaaSv
import Derived.Test.YtebbbefknfldoaaConcat
import Derived.Deep.SlicePairs
import Derived.ChangeArms
import Derived.Lib.SmallJoins
/- EquTurned: its walk. -/
namespace Go.Proofs.Ytebbbefknfldoaa
open Go.ChangeShapes Go.WideShapes Go.ChangeAt Go.RowKit Go.Sort
set_option linter.unusedVariables false
set_option linter.unusedSimpArgs false
set_option maxRecDepth 100000
structure InL (l : List Eqv) : Prop where
  len : l.length ≤ 4400000
  nm : ∀ q ∈ l, q.1.length ≤ 1100000
  ts : ∀ q ∈ l, q.2.terms.length ≤ 4400000
  tn : ∀ q ∈ l, ∀ t ∈ q.2.terms, t.name.length ≤ 1100000
  cf : ∀ q ∈ l, ∀ t ∈ q.2.terms, 0 ≤ t.coef ∧ t.coef < 4294967296
  cs : ∀ q ∈ l, 0 ≤ q.2.const ∧ q.2.const < 4294967296
  nms : (nmsOf l).length ≤ 4400000
theorem InL.right {l : List Eqv} (h : InL l) (hr : RightP l) : SolvIn l := ⟨hr.1, hr.2.2, fun q hq => by have := h.nm q hq; omega, fun q hq => ⟨right_canon (h.cf q hq) (hr.2.1 q hq).2, h.cs q hq⟩, h.nms, fun s hs => by
  obtain ⟨q, hq, hu⟩ := List.mem_flatMap.1 hs
  obtain ⟨t, ht, rfl⟩ := List.mem_map.1 hu
  have := h.tn q hq t ht
  omega⟩
theorem InL.rightC {l : List Eqv} (h : InL l) (la : Option Addr) (lc : Nat) (w : World) (hE : EqIn w la l) : Calls Try.prog 15 #[.slice la l.length lc] w fun e w' => e = .returned (.bool (rightB l)) ∧ Below w.heap.size w w' :=
  right11_any l la lc h.len (fun q hq => ⟨h.nm q hq, by have := h.ts q hq; omega, h.tn q hq⟩) w hE
theorem cutE_h (a : Option Addr) (len c n : Nat) (h : n ≤ c) (w : World) : (Instr.slice 22 (.slice a len c) none (some (.int .i64 (n : Int))) none).run Try.prog w = .ok (.slice a n c) w := by
  rw [run_slice_h w 22 a len c (by kernel_rfl) .i64 (n : Int) (by omega) (by omega)]
  have : (sizeOf (Try.prog.elem 22)).run Try.prog w = .ok 3 w := by kernel_rfl
  rw [this]
  simp only [Result.andThen, sliced]
  cases a with
  | none => simp
  | some a => simp [Addr.add]
theorem cutE_hAt (a : Option Addr) (len c n : Nat) (h : n ≤ c) (w : World) : (Instr.sliceAt 22 (.slice a len c) none (some (.int .i64 (n : Int))) none).run Try.prog w = .ok (.slice a n c) w := by
  rw [run_sliceAt_slice w 22 _ _ _ _ (by kernel_rfl)]
  exact cutE_h a len c n h w
theorem cutE_l (g o len c n : Nat) (h : n < len) (h2 : len ≤ c) (w : World) : (Instr.slice 22 (.slice (some ⟨g, o, none⟩) len c) (some (.int .i64 (n : Int))) none none).run Try.prog w = .ok (.slice (some ⟨g, o + n * 3, none⟩) (len - n) (c - n)) w := by
  rw [run_slice_l w 22 (some ⟨g, o, none⟩) len c (by kernel_rfl) .i64 (n : Int) (by omega) (by omega)]
  have : (sizeOf (Try.prog.elem 22)).run Try.prog w = .ok 3 w := by kernel_rfl
  rw [this]
  simp only [Result.andThen, sliced]
  have : n ≠ c := by omega
  simp [Addr.add]
  rw [if_neg (by omega)]
  by_cases hz : n * 3 = 0
  · rw [if_pos hz, show o + n * 3 = o by omega]
  · rw [if_neg hz]
theorem cutE_lAt (g o len c n : Nat) (h : n < len) (h2 : len ≤ c) (w : World) : (Instr.sliceAt 22 (.slice (some ⟨g, o, none⟩) len c) (some (.int .i64 (n : Int))) none none).run Try.prog w = .ok (.slice (some ⟨g, o + n * 3, none⟩) (len - n) (c - n)) w := by
  rw [run_sliceAt_slice w 22 _ _ _ _ (by kernel_rfl)]
  exact cutE_l g o len c n h h2 w
set_option maxHeartbeats 16000000 in
theorem turned_any (l : List Eqv) (la : Option Addr) (lc : Nat) (hlc : l.length ≤ lc) (turn : Int) (hI : InL l) (w : World) (hE : EqIn w la l) :
    Calls Try.prog 6 #[.slice la l.length lc, .int .i64 turn] w fun e w' => e = .returned (.bool true) ∧ Below w.heap.size w w' := by
  have h15 := Hid.intro (hI.rightC la lc w hE)
  have h14 := Hid.intro known_any
  obtain ⟨n, hn⟩ : ∃ n, n = l.length := ⟨_, rfl⟩
  have hnH := Hid.intro hn
  by_cases hR : RightP l
  · have hS := hI.right hR
    rw [rightB_pos hR] at h15
    by_cases h0 : l = []
    · subst h0
      clear hn hnH
      simp only [List.length_nil] at h15 ⊢
      go_enter Try.func6, Try.ntmps6
      go_wp2_with (first | (go_at_call 15; (with_reducible refine (h15.out).mono ?_); rintro e w1 ⟨rfl, hb1⟩; replace hb1 := Hid.intro hb1) | (go_at_call 14; (with_reducible refine (h14.out _).mono ?_); rintro e w2 ⟨rfl, hb2⟩; replace hb2 := Hid.intro hb2))
      all_goals first | omega | skip
      go_ret
      exact ⟨rfl, hb1.out.trans (hb2.out.mono hb1.out.size)⟩
    · obtain ⟨g, o, qs, rfl, hqs, hQ⟩ := eqIn_q hE h0
      have hn0 : 0 < n := by rw [hn]; exact List.length_pos_iff.2 h0
      have hn60 : n ≤ 60 := by rw [hn]; exact hS.len
      have hql : qs.length = n := by rw [hn, ← hqs, List.length_map]
      rw [← hn] at h15 hlc ⊢
      have h22 := Hid.intro (fun W => within_any turn (n - 1) (by omega) W)
      rw [show ((n - 1 : Nat) : Int) = (n : Int) - 1 by omega] at h22
      have hQH := Hid.intro hQ
      have hqlH := Hid.intro hql
      have hqsH := Hid.intro hqs
      have hSH := Hid.intro hS
      clear hQ hS hE hI hR hqs h0 hn hql
      go_enter Try.func6, Try.ntmps6
      go_upto_region 4 with (first | (go_at_call 15; (with_reducible refine (h15.out).mono ?_); rintro e w1 ⟨rfl, hb1⟩; replace hb1 := Hid.intro hb1) | (go_at_call 22; (with_reducible refine (h22.out _).mono ?_); rintro e w1' ⟨k, hk, rfl, rfl⟩))
      all_goals first | omega | skip
      have hQ1 := Hid.intro (hQH.out.below hb1.out)
      have c1 := cutE_h (some ⟨g, o, none⟩) n lc k (by omega)
      have c2 := cutE_hAt (some ⟨g, o, none⟩) n lc k (by omega)
      have c3 := cutE_l g o n lc k (by omega) hlc
      have c4 := cutE_lAt g o n lc k (by omega) hlc
      have hb0 : Below w1'.heap.size w1' (w1'.alloc (.cells #[] 31)).drew := (below_alloc w1' (.cells #[] 31)).drew
      have hown0 : Hid ((w1'.alloc (.cells #[] 31)).drew.ownsRow w1'.heap.size 31 3 (.slice (some ⟨w1'.heap.size, 0, none⟩) 0 0) 0 []) := ⟨rfl, .inr ⟨_, 0, #[], rfl, Nat.le_refl _, heap_alloc_new w1' (.cells #[] 31), Nat.le_refl _, by unfold maxLen; omega, rfl, rfl⟩⟩
      have hs1 : Hid (∀ W, Hid (Below w1'.heap.size w1' W) → Src W (.slice (some ⟨g, o + k * 3, none⟩) (n - k) (lc - k)) (n - k) (rowQ (qs.drop k)) ∧ Src W (.slice (some ⟨g, o, none⟩) k lc) k (rowQ (qs.take k))) := fun W hB => by
        have hQW := hQ1.out.below hB.out
        have h1 := hQW.srcDrop k (lc - k) (by rw [hqlH.out]; omega)
        rw [hqlH.out] at h1
        exact ⟨h1, hQW.srcTake k lc⟩
      have hd1 : (rowQ (qs.drop k)).length = (n - k) * 3 := by rw [rowQ_len, List.length_drop, hqlH.out]
      have hd2 : (rowQ (qs.take k)).length = k * 3 := by rw [rowQ_len, List.length_take, hqlH.out]; congr 1; omega
      have hb0H := Hid.intro hb0
      clear hb0
      go_region_held3 (fun _ => True) (trivial)
        ((first
          | (refine step_equ _ rfl (.tmp 28) (.tmp 31) rfl w1'.heap.size (.slice (some ⟨w1'.heap.size, 0, none⟩) 0 0) 0 [] rfl hown0.out (.slice (some ⟨g, o + k * 3, none⟩) (n - k) (lc - k)) (n - k) (rowQ (qs.drop k)) rfl (hs1.out _ hb0H).1 hd1 (rowQ_one _) (by omega) hb0H.out.size ?_; intro v2 w2 ho2 hg2 _; obtain ⟨a2, cc2, rfl⟩ := own_slice ho2; have hb2 : Hid (Below w1'.heap.size w1' w2) := (hb0H.out.grown hg2 hb0H.out.size (fun j e => (hown0.out.lt j e).1)); replace ho2 := Hid.intro ho2; clear hg2)
          | (refine step_equ _ rfl (.tmp 32) (.tmp 35) rfl w1'.heap.size (.slice a2 (0 + (n - k)) cc2) (0 + (n - k)) _ rfl ho2.out (.slice (some ⟨g, o, none⟩) k lc) k (rowQ (qs.take k)) rfl (hs1.out _ hb2).2 hd2 (rowQ_one _) (by omega) hb2.out.size ?_; intro v3 w3 ho3 hg3 _; obtain ⟨a3, cc3, rfl⟩ := own_slice ho3; have hb3 : Hid (Below w1'.heap.size w1' w3) := (hb2.out.grown hg3 hb2.out.size (fun j e => (ho2.out.lt j e).1)); replace ho3 := Hid.intro ho3; clear hg3)))
      rw [show n - k + k = n by omega]
      have hE1 : Hid (EqIn w3 (some ⟨g, o, none⟩) l) := by
        have h1 := hQ1.out.below hb3.out
        refine .inr ⟨g, o, rfl, h1.lt, fun i q hq => ?_⟩
        rw [← hqsH.out, List.getElem?_map] at hq
        cases hqi : qs[i]? with
        | none => rw [hqi] at hq; cases hq
        | some q' =>
          rw [hqi] at hq
          have : q'.1 = q := by simpa using hq
          subst this
          exact ⟨_, _, h1.at_ i q' hqi⟩
      have hE2 : Hid (EqIn w3 a3 (l.drop k ++ l.take k)) := by
        have h1 := hQ1.out.below hb3.out
        have h2 := ho3.out
        rw [List.nil_append, ← rowQ_app] at h2
        have h3 := own_eqIn h2 (by rw [List.length_append, List.length_drop, List.length_take, hqlH.out]; omega) (fun q hq => by
          have : q ∈ qs := by
            rcases List.mem_append.1 hq with hq | hq
            · exact List.mem_of_mem_drop hq
            · exact List.mem_of_mem_take hq
          obtain ⟨i, hi, rfl⟩ := List.getElem_of_mem this
          exact (h1.at_ i _ (List.getElem?_eq_getElem hi)).lies)
        rw [List.map_append, List.map_drop, List.map_take, hqsH.out] at h3
        exact h3
      have hb4 : Hid (Below w.heap.size w w3) := hb1.out.trans (hb3.out.mono hb1.out.size)
      have hlt2 : (l.drop k ++ l.take k).length = n := by rw [(turn_perm k).length_eq, hnH.out]
      clear ho3 hb3 ho2 hb2 hs1 hd1 hd2 hb0H hown0 hQ1 c1 c2 c3 c4 hQH hb1 hqsH hqlH h15 h22
      by_cases hc : ∀ x, ¬ CycN l x
      · have s1 : Hid (Calls Try.prog 8 #[.slice (some ⟨g, o, none⟩) n lc] w3 fun e w4 => ∃ g1, e = .returned (.tuple #[.slice (some ⟨g1, 0, none⟩) n n, .int .i64 0, .int .i64 0]) ∧ Hid (EqIn w4 (some ⟨g1, 0, none⟩) (solL l)) ∧ Hid (Below w3.heap.size w3 w4)) := by
          have := solve_good hSH.out hc (some ⟨g, o, none⟩) lc w3 hE1.out
          rw [← hnH.out] at this
          exact this
        have s2 : Hid (∀ w4, Hid (Below w3.heap.size w3 w4) → Calls Try.prog 8 #[.slice a3 n cc3] w4 fun e w5 => ∃ g2, e = .returned (.tuple #[.slice (some ⟨g2, 0, none⟩) n n, .int .i64 0, .int .i64 0]) ∧ Hid (EqIn w5 (some ⟨g2, 0, none⟩) (solL (l.drop k ++ l.take k))) ∧ Hid (Below w4.heap.size w4 w5)) := fun w4 hB => by
          have := solve_good (hSH.out.perm (turn_perm k)) (fun x hx => hc x ((turn_cyc hSH.out k x).2 hx)) a3 cc3 w4 (hE2.out.below hB.out)
          rw [hlt2] at this
          exact this
        have hts := Hid.intro (turn_sol hSH.out hc k)
        have hcH := Hid.intro hc
        clear hc hlt2 hE1 hE2
        go_upto_region 11 with (first
          | (go_at_call 8; (with_reducible refine (s1.out).mono ?_); rintro e w4 ⟨g1, rfl, hm4, hb5⟩)
          | (go_at_call 8; (with_reducible refine (s2.out _ hb5).mono ?_); rintro e w5 ⟨g2, rfl, hm5, hb6⟩))
        all_goals first | omega | skip
        have hm45 := Hid.intro (hm4.out.below hb6.out)
        have hsn : (solL l).length = n := by rw [solL_len, hnH.out]
        have hb7 : Hid (Below w.heap.size w w5) := (hb4.out.trans (hb5.out.mono hb4.out.size)).trans (hb6.out.mono (Nat.le_trans hb4.out.size hb5.out.size))
        rw [hts.out] at hm5
        clear hm4 hb5 hb6 s1 s2 hb4 hts
        obtain ⟨g', o', qm, e0, hqm, hQm⟩ := eqIn_q hm45.out (fun e => by rw [e] at hsn; simp at hsn; omega)
        cases e0
        have hqml : qm.length = n := by rw [← hsn, ← hqm, List.length_map]
        have c1 := cutE_h (some ⟨g1, 0, none⟩) n n k (by omega)
        have c2 := cutE_hAt (some ⟨g1, 0, none⟩) n n k (by omega)
        have c3 := cutE_l g1 0 n n k (by omega) (Nat.le_refl _)
        have c4 := cutE_lAt g1 0 n n k (by omega) (Nat.le_refl _)
        have hb0H : Hid (Below w5.heap.size w5 (w5.alloc (.cells #[] 31)).drew) := (below_alloc w5 (.cells #[] 31)).drew
        have hown0 : Hid ((w5.alloc (.cells #[] 31)).drew.ownsRow w5.heap.size 31 3 (.slice (some ⟨w5.heap.size, 0, none⟩) 0 0) 0 []) := ⟨rfl, .inr ⟨_, 0, #[], rfl, Nat.le_refl _, heap_alloc_new w5 (.cells #[] 31), Nat.le_refl _, by unfold maxLen; omega, rfl, rfl⟩⟩
        have hQmH := Hid.intro hQm
        have hqmlH := Hid.intro hqml
        have hqmH := Hid.intro hqm
        have hs1 : Hid (∀ W, Hid (Below w5.heap.size w5 W) → Src W (.slice (some ⟨g1, k * 3, none⟩) (n - k) (n - k)) (n - k) (rowQ (qm.drop k)) ∧ Src W (.slice (some ⟨g1, 0, none⟩) k n) k (rowQ (qm.take k))) := fun W hB => by
          have hQW := hQmH.out.below hB.out
          have h1 := hQW.srcDrop k (n - k) (by rw [hqmlH.out]; omega)
          rw [hqmlH.out, Nat.zero_add] at h1
          exact ⟨h1, hQW.srcTake k n⟩
        have hd1 : (rowQ (qm.drop k)).length = (n - k) * 3 := by rw [rowQ_len, List.length_drop, hqmlH.out]
        have hd2 : (rowQ (qm.take k)).length = k * 3 := by rw [rowQ_len, List.length_take, hqmlH.out]; congr 1; omega
        have hsame : Hid (∀ a5 c5 W, Hid (W.ownsRow w5.heap.size 31 3 (.slice a5 (0 + (n - k) + k) c5) (0 + (n - k) + k) ([] ++ rowQ (qm.drop k) ++ rowQ (qm.take k))) → Hid (Below w5.heap.size w5 W) → Calls Try.prog 18 #[.slice a5 (n - k + k) c5, .slice (some ⟨g2, 0, none⟩) n n] W fun e W' => e = .returned (.bool true) ∧ Hid (Below w5.heap.size w5 W')) := fun a5 c5 W ho hB => by
          have h2 := ho.out
          rw [List.nil_append, ← rowQ_app] at h2
          have h1 := hQmH.out.below hB.out
          have h3 := own_eqIn h2 (by rw [List.length_append, List.length_drop, List.length_take, hqmlH.out]; omega) (fun q hq => by
            have : q ∈ qm := by
              rcases List.mem_append.1 hq with hq | hq
              · exact List.mem_of_mem_drop hq
              · exact List.mem_of_mem_take hq
            obtain ⟨i, hi, rfl⟩ := List.getElem_of_mem this
            exact (h1.at_ i _ (List.getElem?_eq_getElem hi)).lies)
          rw [List.map_append, List.map_drop, List.map_take, hqmH.out] at h3
          have hlen2 : ((solL l).drop k ++ (solL l).take k).length = n := by rw [List.length_append, List.length_drop, List.length_take, hsn]; omega
          have htm : ∀ x ∈ (solL l).drop k ++ (solL l).take k, x.2.terms.length ≤ 9000000 := fun x hx => by
            have hx2 : x ∈ solL l := by
              rcases List.mem_append.1 hx with hx | hx
              · exact List.mem_of_mem_drop hx
              · exact List.mem_of_mem_take hx
            obtain ⟨_, p1, p2⟩ := solL_mem hSH.out x hx2
            have := canon_len p1.terms p2
            have := hSH.out.nms
            omega
          have h4 := sameEqus_is ((solL l).drop k ++ (solL l).take k) ((solL l).drop k ++ (solL l).take k) (by rw [hlen2]; omega) (by rw [hlen2]; omega) htm htm a5 (some ⟨g2, 0, none⟩) c5 n W h3 (hm5.out.below hB.out)
          rw [hlen2] at h4
          rw [show n - k + k = n by omega]
          refine h4.mono ?_
          rintro e W' ⟨rfl, hb⟩
          exact ⟨by rw [sqB_pos rfl], hB.out.trans (hb.mono hB.out.size)⟩
        clear hQm hqml hqm
        go_region_held3 (fun _ => True) (trivial)
          ((first
            | (refine step_equ _ rfl (.tmp 69) (.tmp 72) rfl w5.heap.size (.slice (some ⟨w5.heap.size, 0, none⟩) 0 0) 0 [] rfl hown0.out (.slice (some ⟨g1, k * 3, none⟩) (n - k) (n - k)) (n - k) (rowQ (qm.drop k)) rfl (hs1.out _ hb0H).1 hd1 (rowQ_one _) (by omega) hb0H.out.size ?_; intro v2 w2 ho2 hg2 _; obtain ⟨a2, cc2, rfl⟩ := own_slice ho2; have hb2 : Hid (Below w5.heap.size w5 w2) := (hb0H.out.grown hg2 hb0H.out.size (fun j e => (hown0.out.lt j e).1)); replace ho2 := Hid.intro ho2; clear hg2)
            | (refine step_equ _ rfl (.tmp 73) (.tmp 76) rfl w5.heap.size (.slice a2 (0 + (n - k)) cc2) (0 + (n - k)) _ rfl ho2.out (.slice (some ⟨g1, 0, none⟩) k n) k (rowQ (qm.take k)) rfl (hs1.out _ hb2).2 hd2 (rowQ_one _) (by omega) hb2.out.size ?_; intro v3 w6 ho3 hg3 _; obtain ⟨a4, cc4, rfl⟩ := own_slice ho3; have hb3 : Hid (Below w5.heap.size w5 w6) := (hb2.out.grown hg3 hb2.out.size (fun j e => (ho2.out.lt j e).1)); replace ho3 := Hid.intro ho3; clear hg3)
            | (go_at_call 18; (with_reducible refine (hsame.out _ _ _ ho3 hb3).mono ?_); rintro e w7 ⟨rfl, hb8⟩)))
        clear ho3 hb3 ho2 hb2 hs1 hd1 hd2 hb0H hown0 hsame c1 c2 c3 c4 hQmH hqmH hqmlH hm5
        go_wp2_with fail
        all_goals first | omega | skip
        go_loopw [13] (fun v13 wr => ∃ i : Nat, i ≤ n ∧ v13 = .int .i64 (i : Int) ∧ Hid (Below w5.heap.size w5 wr)) (fun v13 _ => n - (intOf v13).toNat)
        case atStart => exact ⟨0, by omega, by first | rfl | go_num, hb8⟩
        case round =>
          obtain ⟨i, hi, rfl, hB⟩ := hrel
          by_cases hin : i < n
          · have hil : i < (solL l).length := by omega
            have hq : (solL l)[i]? = some (solL l)[i] := List.getElem?_eq_getElem hil
            generalize (solL l)[i] = q at hq
            obtain ⟨g', o', e0, hgl, va, vc, k0, k1, k2, k3⟩ := eqIn_at (hm45.out.below hB.out) hq
            cases e0
            rw [Nat.zero_add] at k0 k1 k2
            have hd : Below wr.heap.size wr wr.drew := (Below.refl _ wr).drew
            have d1 : wr.drew.cell? ⟨g1, i * 3 + 1, none⟩ = some (.slice va q.2.terms.length vc) := k1
            have d2 : wr.drew.cell? ⟨g1, i * 3 + 2, none⟩ = some (.int .u32 q.2.const) := k2
            have htl : q.2.terms.length ≤ 9000000 := by
              obtain ⟨_, p1, p2⟩ := solL_mem hSH.out q (List.mem_of_getElem? hq)
              have := canon_len p1.terms p2
              have := hSH.out.nms
              omega
            have h12 : Hid (Calls Try.prog 12 #[linV (.slice va q.2.terms.length vc) q.2.const, .slice (some ⟨g1, 0, none⟩) n n] wr.drew fun e W => ∃ a7 c7, e = .returned (linV (.slice a7 q.2.terms.length c7) q.2.const) ∧ Hid (TmLies W a7 q.2.terms) ∧ Hid (Below wr.heap.size wr W) ∧ W.cell? ⟨g1, i * 3 + 1, none⟩ = some (.slice va q.2.terms.length vc) ∧ W.cell? ⟨g1, i * 3 + 2, none⟩ = some (.int .u32 q.2.const)) := by
              have := put_stays hSH.out hcH.out hq (some ⟨g1, 0, none⟩) n va vc wr.drew ((hm45.out.below hB.out).below hd) (k3.below hd (Nat.le_refl _))
              rw [← hnH.out] at this
              refine this.mono ?_
              rintro e W ⟨hb, v, rfl, ho⟩
              obtain ⟨a7, c7, rfl⟩ := own_slice ho
              have hb2 : Below wr.heap.size wr W := hd.trans hb
              exact ⟨a7, c7, rfl, own_tmLies ho, hb2, (hb2.cell (p := ⟨g1, _, none⟩) hgl).trans k1, (hb2.cell (p := ⟨g1, _, none⟩) hgl).trans k2⟩
            have h23 : Hid (∀ a7 c7 W, Hid (TmLies W a7 q.2.terms) → Hid (Below wr.heap.size wr W) → Calls Try.prog 23 #[linV (.slice a7 q.2.terms.length c7) q.2.const, linV (.slice va q.2.terms.length vc) q.2.const] W fun e W' => e = .returned (.bool true) ∧ Hid (Below wr.heap.size wr W') ∧ W'.cell? ⟨g1, i * 3 + 1, none⟩ = some (.slice va q.2.terms.length vc) ∧ W'.cell? ⟨g1, i * 3 + 2, none⟩ = some (.int .u32 q.2.const)) := fun a7 c7 W h1 h2 => by
              refine (same_any a7 va c7 vc q.2.terms q.2.terms q.2.const q.2.const W h1.out (k3.below h2.out (Nat.le_refl _)) htl htl).mono ?_
              rintro e W' ⟨rfl, hb⟩
              have hb2 : Below wr.heap.size wr W' := h2.out.trans (hb.mono h2.out.size)
              exact ⟨by rw [show sameL q.2.terms q.2.terms q.2.const q.2.const = true from by simp [sameL]], hb2, (hb2.cell (p := ⟨g1, _, none⟩) hgl).trans k1, (hb2.cell (p := ⟨g1, _, none⟩) hgl).trans k2⟩
            generalize q.2.terms.length = ql at *
            clear k0 k3 hd hgl hq htl
            go_upto_region 16 with fail
            all_goals first | omega | skip
            go_region_held3 (fun W => W.cell? ⟨g1, i * 3 + 1, none⟩ = some (.slice va ql vc) ∧ W.cell? ⟨g1, i * 3 + 2, none⟩ = some (.int .u32 q.2.const)) (go_keep)
              ((first
                | (go_at_call 12; (with_reducible refine (h12.out).mono ?_); rintro e w8 ⟨a7, c7, rfl, ht8, hb9, u0, u1⟩)
                | (go_at_call 23; (with_reducible refine (h23.out _ _ _ ht8 hb9).mono ?_); rintro e w9 ⟨rfl, hb10, u2, u3⟩)))
            have hB2 : Hid (Below w5.heap.size w5 w9) := hB.out.trans (hb10.out.mono hB.out.size)
            clear hb9 hb10 ht8 h12 h23 k1 k2 d1 d2 u0 u1 u2 u3
            go_wp2_with fail
            all_goals first | omega | skip
            go_roundw
            case rel => exact ⟨i + 1, by omega, by go_num, hB2⟩
            case measure => simp [intOf]; omega
          · go_wp2_with (go_at_call 14; (with_reducible refine (h14.out _).mono ?_); rintro e w9 ⟨rfl, hb9⟩; replace hb9 := Hid.intro hb9)
            all_goals first | omega | skip
            go_ret
            exact ⟨rfl, (hb7.out.trans (hB.out.mono hb7.out.size)).trans (hb9.out.mono (Nat.le_trans hb7.out.size hB.out.size))⟩
      · have hcx : ∃ x, CycN l x := Classical.byContradiction fun h => hc fun x hx => h ⟨x, hx⟩
        have hcx2 : ∃ x, CycN (l.drop k ++ l.take k) x := by
          obtain ⟨x, hx⟩ := hcx
          exact ⟨x, (turn_cyc hSH.out k x).1 hx⟩
        have hS2 := hSH.out.perm (turn_perm k)
        have s1 : Hid (Calls Try.prog 8 #[.slice (some ⟨g, o, none⟩) n lc] w3 fun e w4 => ∃ m : Nat, e = .returned (.tuple #[.slice none 0 0, .int .i64 (m : Int), .int .i64 24]) ∧ Hid (Below w3.heap.size w3 w4)) := by
          have := solve_not hSH.out hcx (some ⟨g, o, none⟩) lc w3 hE1.out
          rw [← hnH.out] at this
          refine this.mono ?_
          rintro e w4 ⟨m, rfl, _, hb⟩
          exact ⟨m, rfl, hb⟩
        have s2 : Hid (∀ w4, Hid (Below w3.heap.size w3 w4) → Calls Try.prog 8 #[.slice a3 n cc3] w4 fun e w5 => ∃ m : Nat, e = .returned (.tuple #[.slice none 0 0, .int .i64 (m : Int), .int .i64 24]) ∧ Hid (Below w3.heap.size w3 w5)) := fun w4 hB => by
          have := solve_not hS2 hcx2 a3 cc3 w4 (hE2.out.below hB.out)
          rw [hlt2] at this
          refine this.mono ?_
          rintro e w5 ⟨m, rfl, _, hb⟩
          exact ⟨m, rfl, hB.out.trans (hb.mono hB.out.size)⟩
        have s3 : Hid (∀ w5, Hid (Below w3.heap.size w3 w5) → Calls Try.prog 10 #[.slice (some ⟨g, o, none⟩) n lc] w5 fun e w6 => ∃ a6 n6 c6 ss, e = .returned (.slice a6 n6 c6) ∧ Hid (n6 = ss.length ∧ StIn w6 a6 ss ∧ ss.Pairwise (fun x y => x ≤ y) ∧ ss.Nodup ∧ ∀ x, x ∈ ss ↔ CycN l x) ∧ Hid (Below w3.heap.size w3 w6)) := fun w5 hB => by
          have := cycle_in hSH.out (some ⟨g, o, none⟩) lc w5 (hE1.out.below hB.out)
          rw [← hnH.out] at this
          refine this.mono ?_
          rintro e w6 ⟨hb, v, ss, rfl, ho, h1, h2, h3⟩
          obtain ⟨a6, c6, rfl⟩ := own_slice ho
          obtain ⟨h4, h5⟩ := own_stIn ho
          exact ⟨a6, _, c6, ss, rfl, ⟨h5, h4, h1, h2, h3⟩, hB.out.trans (hb.mono hB.out.size)⟩
        have s4 : Hid (∀ w6 a6 n6 ss, Hid (n6 = ss.length ∧ StIn w6 a6 ss ∧ ss.Pairwise (fun x y => x ≤ y) ∧ ss.Nodup ∧ ∀ x, x ∈ ss ↔ CycN l x) → Hid (Below w3.heap.size w3 w6) → Calls Try.prog 10 #[.slice a3 n cc3] w6 fun e w7 => ∃ a7 c7, e = .returned (.slice a7 n6 c7) ∧ Hid (StIn w7 a7 ss) ∧ Hid (StIn w7 a6 ss) ∧ Hid (Below w3.heap.size w3 w7)) := fun w6 a6 n6 ss hs hB => by
          have := cycle_in hS2 a3 cc3 w6 (hE2.out.below hB.out)
          rw [hlt2] at this
          refine this.mono ?_
          rintro e w7 ⟨hb, v, ss2, rfl, ho, h1, h2, h3⟩
          obtain ⟨a7, c7, rfl⟩ := own_slice ho
          obtain ⟨h4, h5⟩ := own_stIn ho
          obtain ⟨p1, p2, p3, p4, p5⟩ := hs.out
          have hss : ss2 = ss := rise_unique h1 p3 h2 p4 (fun x => (h3 x).trans ((turn_cyc hSH.out k x).symm.trans (p5 x).symm))
          subst hss
          rw [p1]
          exact ⟨a7, c7, rfl, h4, p2.below hb, hB.out.trans (hb.mono hB.out.size)⟩
        have s5 : Hid (∀ w6 w7 a6 n6 c6 a7 c7 ss, Hid (n6 = ss.length ∧ StIn w6 a6 ss ∧ ss.Pairwise (fun x y => x ≤ y) ∧ ss.Nodup ∧ ∀ x, x ∈ ss ↔ CycN l x) → Hid (StIn w7 a7 ss) → Hid (StIn w7 a6 ss) → Hid (Below w3.heap.size w3 w7) → Calls Try.prog 13 #[.slice a6 n6 c6, .slice a7 n6 c7] w7 fun e w8 => e = .returned (.bool true) ∧ Hid (Below w3.heap.size w3 w8)) := fun w6 w7 a6 n6 c6 a7 c7 ss hs h1 h2 hB => by
          obtain ⟨p1, _, _, p4, p5⟩ := hs.out
          have hlen : ss.length ≤ 60 := by
            have := nodup_le ss (l.map (·.1)) p4 (fun x hx => by
              obtain ⟨i, hi, _, e⟩ := (p5 x).1 hx
              rw [← e, nmOf_get (List.getElem?_eq_getElem hi)]
              exact List.mem_map.2 ⟨l[i], List.getElem_mem hi, rfl⟩)
            rw [List.length_map] at this
            have := hSH.out.len
            omega
          rw [p1]
          refine (sameStr_is ss ss (by omega) (by omega) a6 a7 c6 c7 w7 h2.out h1.out).mono ?_
          rintro e w8 ⟨rfl, hb⟩
          exact ⟨by rw [sqB_pos rfl], hB.out.trans (hb.mono hB.out.size)⟩
        clear hc hcx hcx2 hS2 hlt2 hE1 hE2
        go_wp2_with (first
          | (go_at_call 8; (with_reducible refine (s1.out).mono ?_); rintro e w4 ⟨m1, rfl, hb5⟩)
          | (go_at_call 8; (with_reducible refine (s2.out _ hb5).mono ?_); rintro e w5 ⟨m2, rfl, hb6⟩)
          | (go_at_call 10; (with_reducible refine (s3.out _ hb6).mono ?_); rintro e w6 ⟨a6, n6, c6, ss, rfl, hs6, hb7⟩)
          | (go_at_call 10; (with_reducible refine (s4.out _ a6 n6 ss hs6 hb7).mono ?_); rintro e w7 ⟨a7, c7, rfl, hs7, hs8, hb8⟩)
          | (go_at_call 13; (with_reducible refine (s5.out _ _ _ _ _ _ _ ss hs6 hs7 hs8 hb8).mono ?_); rintro e w8 ⟨rfl, hb9⟩)
          | (go_at_call 14; (with_reducible refine (h14.out _).mono ?_); rintro e w9 ⟨rfl, hb10⟩; replace hb10 := Hid.intro hb10))
        all_goals first | omega | skip
        go_ret
        exact ⟨rfl, (hb4.out.trans (hb9.out.mono hb4.out.size)).trans (hb10.out.mono (Nat.le_trans hb4.out.size hb9.out.size))⟩
  · rw [rightB_neg hR] at h15
    rw [← hn] at h15 ⊢
    clear hn hnH hR hI hE
    go_enter Try.func6, Try.ntmps6
    go_wp2_with (first | (go_at_call 15; (with_reducible refine (h15.out).mono ?_); rintro e w1 ⟨rfl, hb1⟩; replace hb1 := Hid.intro hb1) | (go_at_call 14; (with_reducible refine (h14.out _).mono ?_); rintro e w2 ⟨rfl, hb2⟩; replace hb2 := Hid.intro hb2))
    all_goals first | omega | skip
    go_ret
    exact ⟨rfl, hb1.out.trans (hb2.out.mono hb1.out.size)⟩
end Go.Proofs.Ytebbbefknfldoaa
/- How a Lin that came in is opened: its terms lie in memory; what the bound on its bulk gives. -/
namespace Go.Proofs.Ytebbbefknfldoaa
open Go.ChangeShapes Go.WideShapes Go.ChangeAt Go.RowKit
set_option linter.unusedVariables false
set_option maxRecDepth 100000
theorem bulk_pos {H : Type} (d : DataW H) : 1 ≤ Rows.uptoBulk d := by
  cases d with
  | lit l => cases l <;> simp [Rows.uptoBulk]
  | nil => simp [Rows.uptoBulk]
  | ptr d => simp [Rows.uptoBulk]
  | slice elems spare => simp [Rows.uptoBulk]
  | agg parts => simp [Rows.uptoBulk]
  | iface t d => simp [Rows.uptoBulk]
  | map entries => simp [Rows.uptoBulk]
  | held h => simp [Rows.uptoBulk]
theorem bulk_all {H : Type} (l : List (DataW H)) : l.length ≤ Rows.uptoBulkAll l := by
  induction l with
  | nil => simp [Rows.uptoBulkAll]
  | cons x r ih =>
    have := bulk_pos x
    simp only [Rows.uptoBulkAll, List.length_cons]
    omega
theorem bulk_mem {H : Type} (l : List (DataW H)) (d : DataW H) (h : d ∈ l) : Rows.uptoBulk d ≤ Rows.uptoBulkAll l := by
  induction l with
  | nil => cases h
  | cons x r ih =>
    simp only [Rows.uptoBulkAll]
    rcases List.mem_cons.1 h with rfl | h
    · omega
    · have := ih h
      omega
def nameV : Value → List UInt8
  | .string s => s.data.toList
  | _ => []
structure LinIn (W : World) (v : Value) (N : Nat) (a : Option Addr) (c : Nat) (ts : List Tm) (k : Int) : Prop where
  is : v = linV (.slice a ts.length c) k
  held : Held W a c ts
  lo : 0 ≤ k
  hi : k < 4294967296
  few : ts.length ≤ N
  each : ∀ t ∈ ts, 0 ≤ t.coef ∧ t.coef < 4294967296 ∧ t.name.length ≤ N
  cap : ts.length ≤ c
  most : c ≤ maxLen
end Go.Proofs.Ytebbbefknfldoaa
namespace Go.Proofs.Ytebbbefknfldoaa
open Go.ChangeShapes Go.WideShapes Go.ChangeAt Go.RowKit
set_option linter.unusedVariables false
set_option linter.unusedSimpArgs false
set_option maxRecDepth 100000
theorem cel9 : Try.prog.cellsOf 9 = 1 := by kernel_rfl
theorem cel86 : Try.prog.cellsOf 26 = 1 := by kernel_rfl
theorem cel87 : Try.prog.cellsOf 27 = 1 := by kernel_rfl
theorem cel89 : Try.prog.cellsOf 29 = 2 := by kernel_rfl
theorem cel101 : Try.prog.cellsOf 31 = 3 := by kernel_rfl
theorem cel123 : Try.prog.cellsOf 49 = 2 := by kernel_rfl
theorem flat_at {α β : Type} (f : α → List β) (k : Nat) (hf : ∀ x, (f x).length = k) : ∀ (l : List α) (i j : Nat) (x : α), l[i]? = some x → j < k → (l.flatMap f)[i * k + j]? = (f x)[j]?
  | [], i, j, x, h, hj => by simp at h
  | y :: l, 0, j, x, h, hj => by
    simp only [List.getElem?_cons_zero, Option.some.injEq] at h
    subst h
    rw [List.flatMap_cons, Nat.zero_mul, Nat.zero_add, List.getElem?_append_left (by rw [hf]; exact hj)]
  | y :: l, i + 1, j, x, h, hj => by
    rw [List.flatMap_cons, List.getElem?_append_right (by rw [hf, Nat.succ_mul]; omega), hf, show (i + 1) * k + j - k = i * k + j by rw [Nat.succ_mul]; omega]
    exact flat_at f k hf l i j x (by simpa using h) hj
theorem list3 {α : Type} {l : List α} (h : l.length = 3) : ∃ a b c, l = [a, b, c] := by
  match l, h with
  | [a, b, c], _ => exact ⟨a, b, c, rfl⟩
theorem str_bytes (s : ByteArray) : s = str s.data.toList := by simp [str]
theorem list_each {α : Type} {n : Nat} {P : Nat → α → Prop} (h : ∀ i, i < n → ∃ x, P i x) : ∃ l : List α, l.length = n ∧ ∀ i x, l[i]? = some x → P i x := by
  induction n with
  | zero => exact ⟨[], rfl, fun i x hx => by simp at hx⟩
  | succ n ih =>
    obtain ⟨l, hl, he⟩ := ih fun i hi => h i (by omega)
    obtain ⟨x, hx⟩ := h n (by omega)
    refine ⟨l ++ [x], by simp [hl], fun i y hy => ?_⟩
    by_cases hi : i < l.length
    · rw [List.getElem?_append_left hi] at hy
      exact he i y hy
    · have hi2 := (List.getElem?_eq_some_iff.1 hy).1
      simp at hi2
      obtain rfl : i = l.length := by omega
      simp at hy
      subst hy
      rw [hl]
      exact hx
structure LinC (W : World) (B : Nat) (a : Option Addr) (c : Nat) (x : Lin) : Prop where
  lies : TmLies W a x.terms
  lo : 0 ≤ x.const
  hi : x.const < 4294967296
  few : x.terms.length ≤ B
  each : ∀ t ∈ x.terms, 0 ≤ t.coef ∧ t.coef < 4294967296 ∧ t.name.length ≤ B
  nil : a = none → c = 0
theorem open_linC {H : Type} {enc : TypeId × Value → H} {W : World} {c0 c1 : Value} {d : DataW H} {p : List MemPlace} {fuel : Nat}
    (hf : DataW.trod enc Try.prog W 0 (fun _ => true) true fuel 29 [c0, c1] = some (d, p)) :
    ∃ a c x, c0 = .slice a x.terms.length c ∧ c1 = .int .u32 x.const ∧ LinC W (Rows.uptoBulk d) a c x := by
  obtain ⟨y0, y1, n, hx, hl, t0, t1⟩ := trod_struct2 Try.underlying29 hf
  simp only [cel86, cel87, List.drop, List.take] at t0 t1
  obtain ⟨k, hk, rfl, wk⟩ := DataW.trod_int Try.underlying27 t1
  simp only [List.cons.injEq, and_true] at hk
  subst hk
  have hb := bounds_u32 wk
  simp only [Prod.mk.injEq] at hx
  obtain ⟨rfl, rfl⟩ := hx
  rcases Deep.open_slice_pairs Try.underlying26 Try.underlying49 cel123 rfl rfl cel9 cel87 t0 with ⟨hc, rfl⟩ | ⟨a, len, cap, m, n', V0, V1, D0, D1, P0, P1, hc, _, hlc, hcm, hm, rfl, hall⟩
  · simp only [List.cons.injEq, and_true] at hc
    subst hc
    exact ⟨none, 0, ⟨[], k⟩, rfl, rfl, ⟨.inl rfl, hb.1, by have := hb.2; show k < _; omega, Nat.zero_le _, (fun t ht => by (cases ht)), fun _ => rfl⟩⟩
  · simp only [List.cons.injEq, and_true] at hc
    subst hc
    simp only [if_true] at hm
    subst hm
    have hone : ∀ i, i < len → V0 i = .string (str (nameV (V0 i))) ∧ V1 i = .int .u32 (intOf (V1 i)) ∧ 0 ≤ intOf (V1 i) ∧ intOf (V1 i) < 4294967296 ∧ (nameV (V0 i)).length + 1 ≤ Rows.uptoBulk (D0 i) := fun i hi => by
      obtain ⟨_, _, h0, h1⟩ := hall i (by omega)
      obtain ⟨s, e0, e1, _⟩ := DataW.trod_string Try.underlying9 h0
      obtain ⟨z, e2, e3, wz⟩ := DataW.trod_int Try.underlying27 h1
      simp only [List.cons.injEq, and_true] at e0 e2
      simp only [Prod.mk.injEq] at e1 e3
      rw [e0, e2, e1.1]
      have := bounds_u32 wz
      refine ⟨?_, rfl, this.1, by simp only [intOf]; omega, by simp [nameV, Rows.uptoBulk]⟩
      simp [nameV, str]
    have hbulk : ∀ i, i < len → Rows.uptoBulk (D0 i) + 1 ≤ Rows.uptoBulkAll ((List.range len).map fun i => DataW.agg [D0 i, D1 i]) := fun i hi => by
      have := bulk_mem ((List.range len).map fun i => DataW.agg [D0 i, D1 i]) (.agg [D0 i, D1 i]) (List.mem_map.2 ⟨i, List.mem_range.2 hi, rfl⟩)
      simp only [Rows.uptoBulk, Rows.uptoBulkAll] at this
      omega
    have hfew := bulk_all ((List.range len).map fun i => DataW.agg [D0 i, D1 i])
    simp only [List.length_map, List.length_range] at hfew
    have hB : Rows.uptoBulkAll ((List.range len).map fun i => DataW.agg [D0 i, D1 i]) ≤ Rows.uptoBulk (DataW.agg [DataW.slice ((List.range len).map fun i => DataW.agg [D0 i, D1 i]) ((List.range (m - len)).map fun j => DataW.agg [D0 (len + j), D1 (len + j)]), DataW.lit (Lit.int IntKind.u32 k)]) := by
      simp only [Rows.uptoBulk, Rows.uptoBulkAll]
      omega
    have hat : ∀ i t, ((List.range len).map fun i => (⟨nameV (V0 i), intOf (V1 i)⟩ : Tm))[i]? = some t → i < len ∧ t = ⟨nameV (V0 i), intOf (V1 i)⟩ := fun i t ht => by
      rw [List.getElem?_map, Option.map_eq_some_iff] at ht
      obtain ⟨j, hj, rfl⟩ := ht
      obtain ⟨hj1, hj2⟩ := List.getElem?_eq_some_iff.1 hj
      simp at hj1 hj2
      subst hj2
      exact ⟨hj1, rfl⟩
    refine ⟨some a, m, ⟨(List.range len).map fun i => ⟨nameV (V0 i), intOf (V1 i)⟩, k⟩, by simp, rfl, ⟨?_, hb.1, by have := hb.2; show k < _; omega, by simp; omega, fun t ht => ?_, fun h => (by cases h)⟩⟩
    · by_cases h0 : len = 0
      · subst h0
        exact .inl rfl
      · obtain ⟨b, off, spot⟩ := a
        have hspot : spot = none := by simpa [Addr.add] using World.cell?_spot (hall 0 (by omega)).1
        subst hspot
        have hadd : ∀ j, (⟨b, off, none⟩ : Addr).add j = ⟨b, off + j, none⟩ := fun j => by unfold Addr.add; split <;> simp_all
        refine .inr ⟨b, off, rfl, ?_, fun i t ht => ?_⟩
        · have h1 := (hall 0 (by omega)).1
          apply Decidable.byContradiction
          intro hn
          unfold World.cell? at h1
          simp [Array.getElem?_eq_none (show W.heap.size ≤ b by omega), hadd] at h1
        · obtain ⟨hi, rfl⟩ := hat i t ht
          obtain ⟨k0, k1, _⟩ := hall i (by omega)
          rw [hadd] at k0 k1
          obtain ⟨e0, e1, _⟩ := hone i hi
          exact ⟨by rw [k0, ← e0], by rw [Nat.add_assoc, k1, ← e1]⟩
    · obtain ⟨i, hi⟩ := List.getElem?_of_mem ht
      obtain ⟨hi2, rfl⟩ := hat i t hi
      obtain ⟨_, _, e2, e3, e4⟩ := hone i hi2
      have := hbulk i hi2
      exact ⟨e2, e3, by simp only; omega⟩
theorem LinC.mono {W : World} {B C : Nat} {a : Option Addr} {c : Nat} {x : Lin} (h : LinC W B a c x) (hBC : B ≤ C) : LinC W C a c x :=
  ⟨h.lies, h.lo, h.hi, by have := h.few; omega, fun t ht => ⟨(h.each t ht).1, (h.each t ht).2.1, by have := (h.each t ht).2.2; omega⟩, h.nil⟩
theorem LinC.src {W : World} {B : Nat} {a : Option Addr} {c : Nat} {x : Lin} (h : LinC W B a c x) : Src W (.slice a x.terms.length c) x.terms.length (rowT x.terms) := by
  rcases h.lies with h0 | ⟨g, o, rfl, hg, h1⟩
  · rw [h0]
    cases a with
    | none => exact .inl ⟨by rw [h.nil rfl]; rfl, rfl, rfl⟩
    | some y => exact .inr ⟨y, c, rfl, fun j u hj => (by simp [rowT] at hj)⟩
  · refine .inr ⟨_, c, rfl, fun j u hj => ?_⟩
    have hl : (rowT x.terms).length = x.terms.length * 2 := by
      unfold rowT
      generalize x.terms = l
      induction l with
      | nil => rfl
      | cons t l ih => rw [List.flatMap_cons, List.length_append, ih, List.length_cons]; show 2 + _ = _; omega
    have hj2 : j < x.terms.length * 2 := by
      have := (List.getElem?_eq_some_iff.1 hj).1
      omega
    have hq : j / 2 < x.terms.length := by omega
    have ht := List.getElem?_eq_getElem hq
    have hat := h1 (j / 2) _ ht
    have hfl := flat_at Tm.cells 2 (fun _ => rfl) x.terms (j / 2)
    unfold rowT at hj
    have hadd : (⟨g, o, none⟩ : Addr).add j = ⟨g, o + j, none⟩ := by
      unfold Addr.add
      split <;> simp_all
    rw [hadd]
    rcases Nat.mod_two_eq_zero_or_one j with hm | hm
    · have hf := hfl 0 _ ht (by omega)
      rw [show j / 2 * 2 + 0 = j by omega, hj] at hf
      have h3 := hat.name
      rw [show o + j / 2 * 2 = o + j by omega] at h3
      rw [h3]
      exact hf.symm
    · have hf := hfl 1 _ ht (by omega)
      rw [show j / 2 * 2 + 1 = j by omega, hj] at hf
      have h3 := hat.coef
      rw [show o + j / 2 * 2 + 1 = o + j by omega] at h3
      rw [h3]
      exact hf.symm
theorem add_none (b off j : Nat) : (⟨b, off, none⟩ : Addr).add j = ⟨b, off + j, none⟩ := by
  unfold Addr.add
  split <;> simp_all
theorem cells_at {W : World} {b off k : Nat} {cs : List Value} (h : W.cells? 0 ⟨b, off, none⟩ k = some cs) : ∀ j, j < k → W.cell? ⟨b, off + j, none⟩ = cs[j]? := fun j hj => by
  rw [← (World.cells?_some h).2.2 j hj, add_none]
theorem plain_addr {W : World} {a : Addr} {k : Nat} {cs : List Value} (hk : 0 < k) (h : W.cells? 0 a k = some cs) : ∃ g o, a = ⟨g, o, none⟩ ∧ g < W.heap.size := by
  obtain ⟨h1, h2, h3⟩ := World.cells?_some h
  have h0 := h3 0 hk
  rw [List.getElem?_eq_getElem (by omega)] at h0
  have hs := World.cell?_spot h0
  obtain ⟨b, off, spot⟩ := a
  have hspot : spot = none := by simpa [Addr.add] using hs
  subst hspot
  exact ⟨b, off, rfl, World.cells?_block h hk⟩
structure EqC (W : World) (B : Nat) (cs : List Value) (q : List UInt8 × Lin) (va : Option Addr) (vc : Nat) : Prop where
  is : cs = [.string (str q.1), .slice va q.2.terms.length vc, .int .u32 q.2.const]
  name : q.1.length ≤ B
  lin : LinC W B va vc q.2
theorem open_eqC {H : Type} {enc : TypeId × Value → H} {W : World} {cs : List Value} {d : DataW H} {p : List MemPlace} {fuel : Nat}
    (hf : DataW.trod enc Try.prog W 0 (fun _ => true) true fuel 31 cs = some (d, p)) :
    ∃ q va vc, EqC W (Rows.uptoBulk d) cs q va vc := by
  obtain ⟨y0, y1, n, hx, hl, t0, t1⟩ := trod_struct2 Try.underlying31 hf
  rw [cel101] at hl
  obtain ⟨c0, c1, c2, rfl⟩ := list3 hl
  simp only [cel9, cel89, List.drop, List.take] at t0 t1
  obtain ⟨s, e1, f1, _⟩ := DataW.trod_string Try.underlying9 t0
  simp only [List.cons.injEq, and_true] at e1
  subst e1
  obtain ⟨d1, p1⟩ := y1
  obtain ⟨va, vc, L, rfl, rfl, hL⟩ := open_linC t1
  simp only [Prod.mk.injEq] at hx
  obtain ⟨rfl, _⟩ := hx
  have hB3 : Rows.uptoBulk d1 ≤ Rows.uptoBulk (DataW.agg [y0.1, d1]) := by
    simp only [Rows.uptoBulk, Rows.uptoBulkAll]
    omega
  have hB1 : s.data.toList.length ≤ Rows.uptoBulk (DataW.agg [y0.1, d1]) := by
    rw [f1]
    simp only [Rows.uptoBulk, Rows.uptoBulkAll]
    omega
  exact ⟨(s.data.toList, L), va, vc, ⟨by simp [← str_bytes], hB1, hL.mono hB3⟩⟩
def EqSr (w : World) (a : Option Addr) (l : List (List UInt8 × Lin)) : Prop := l = [] ∨ ∃ g o, a = some ⟨g, o, none⟩ ∧ g < w.heap.size ∧ ∀ (i : Nat) (q : List UInt8 × Lin), l[i]? = some q → ∃ va vc, w.cell? ⟨g, o + i * 3, none⟩ = some (.string (str q.1)) ∧ w.cell? ⟨g, o + i * 3 + 1, none⟩ = some (.slice va q.2.terms.length vc) ∧ w.cell? ⟨g, o + i * 3 + 2, none⟩ = some (.int .u32 q.2.const) ∧ Src w (.slice va q.2.terms.length vc) q.2.terms.length (rowT q.2.terms)
theorem nms_bulk {H : Type} : ∀ (l : List Eqv) (ds : List (DataW H)), l.length = ds.length → (∀ (i : Nat) (q : Eqv), l[i]? = some q → ∃ d, ds[i]? = some d ∧ q.2.terms.length ≤ Rows.uptoBulk d) → (nmsOf l).length ≤ Rows.uptoBulkAll ds
  | [], ds, _, _ => Nat.zero_le _
  | q :: l, [], h, _ => by cases h
  | q :: l, d :: ds, h, h2 => by
    have h3 := nms_bulk l ds (by simpa using h) (fun i q' hq => h2 (i + 1) q' (by simpa using hq))
    obtain ⟨d', e, h4⟩ := h2 0 q rfl
    cases e
    show ((q.2.terms.map (·.name)) ++ nmsOf l).length ≤ _
    simp only [List.length_append, List.length_map, Rows.uptoBulkAll]
    omega
theorem open_equs {H : Type} {enc : TypeId × Value → H} {W : World} {c : Value} {d : DataW H} {p : List MemPlace} {fuel : Nat}
    (hf : DataW.trod enc Try.prog W 0 (fun _ => true) true fuel 22 [c] = some (d, p)) :
    ∃ a vc l, c = .slice a l.length vc ∧ EqIn W a l ∧ l.length ≤ Rows.uptoBulk d ∧ l.length ≤ vc ∧ vc ≤ maxLen ∧ (∀ q ∈ l, ∃ va vc, EqC W (Rows.uptoBulk d) [.string (str q.1), .slice va q.2.terms.length vc, .int .u32 q.2.const] q va vc) ∧ EqSr W a l ∧ (nmsOf l).length ≤ Rows.uptoBulk d := by
  rcases Deep.open_slice Try.underlying22 hf with ⟨hc, hx⟩ | ⟨a, len, cap, m, n, D, Pl, hc, _, hlc, hcm, hm, hx, hall⟩
  · simp only [List.cons.injEq, and_true] at hc
    subst hc
    exact ⟨none, 0, [], rfl, .inl rfl, Nat.zero_le _, Nat.le_refl _, Nat.zero_le _, (fun x hx => by cases hx), .inl rfl, Nat.zero_le _⟩
  · simp only [List.cons.injEq, and_true] at hc
    subst hc
    simp only [if_true] at hm
    subst hm
    simp only [Prod.mk.injEq] at hx
    obtain ⟨rfl, _⟩ := hx
    simp only [cel101] at hall
    have hfew := bulk_all ((List.range len).map D)
    simp only [List.length_map, List.length_range] at hfew
    have hB : Rows.uptoBulkAll ((List.range len).map D) ≤ Rows.uptoBulk (DataW.slice ((List.range len).map D) ((List.range (m - len)).map fun j => D (len + j))) := by
      simp only [Rows.uptoBulk]
      omega
    have heach : ∀ i, i < len → ∃ q : List UInt8 × Lin, ∃ cs va vc, W.cells? 0 (a.add (i * 3)) 3 = some cs ∧ EqC W (Rows.uptoBulk (DataW.slice ((List.range len).map D) ((List.range (m - len)).map fun j => D (len + j)))) cs q va vc ∧ q.2.terms.length ≤ Rows.uptoBulk (D i) := fun i hi => by
      obtain ⟨cs, h1, h2⟩ := hall i (by omega)
      obtain ⟨x, va, vc, hx⟩ := open_eqC h2
      have hb := bulk_mem ((List.range len).map D) (D i) (List.mem_map.2 ⟨i, List.mem_range.2 hi, rfl⟩)
      exact ⟨x, cs, va, vc, h1, ⟨hx.is, by have := hx.name; omega, hx.lin.mono (by omega)⟩, hx.lin.few⟩
    obtain ⟨l, hl, hP⟩ := list_each heach
    have hnm : (nmsOf l).length ≤ Rows.uptoBulkAll ((List.range len).map D) := nms_bulk l _ (by simp [hl]) (fun i q hq => by
      obtain ⟨cs, va, vc, _, _, h3⟩ := hP i q hq
      have hi : i < len := by rw [← hl]; exact (List.getElem?_eq_some_iff.1 hq).1
      exact ⟨D i, by rw [List.getElem?_map, List.getElem?_range hi]; rfl, h3⟩)
    refine ⟨some a, m, l, by rw [hl], ?_, by omega, by omega, hcm, fun x hx => ?_, ?_, by omega⟩
    · by_cases h0 : l = []
      · exact .inl h0
      · have hpos : 0 < l.length := List.length_pos_iff.2 h0
        obtain ⟨_, cs0, va0, vc0, hc0, _, _⟩ := heach 0 (by omega)
        rw [Nat.zero_mul, show a.add 0 = a from by simp [Addr.add]] at hc0
        obtain ⟨g, o, rfl, hg⟩ := plain_addr (by omega) hc0
        refine .inr ⟨g, o, rfl, hg, fun i x hx => ?_⟩
        obtain ⟨cs, va, vc, h1, h2, _⟩ := hP i x hx
        rw [add_none] at h1
        have hcl := cells_at h1
        rw [h2.is] at hcl
        exact ⟨va, vc, hcl 0 (by omega), hcl 1 (by omega), hcl 2 (by omega), h2.lin.lies⟩
    · obtain ⟨i, hi⟩ := List.getElem?_of_mem hx
      obtain ⟨cs, va, vc, h1, h2, _⟩ := hP i x hi
      exact ⟨va, vc, rfl, h2.name, h2.lin⟩
    · by_cases h0 : l = []
      · exact .inl h0
      · have hpos : 0 < l.length := List.length_pos_iff.2 h0
        obtain ⟨_, cs0, va0, vc0, hc0, _, _⟩ := heach 0 (by omega)
        rw [Nat.zero_mul, show a.add 0 = a from by simp [Addr.add]] at hc0
        obtain ⟨g, o, rfl, hg⟩ := plain_addr (by omega) hc0
        refine .inr ⟨g, o, rfl, hg, fun i x hx => ?_⟩
        obtain ⟨cs, va, vc, h1, h2, _⟩ := hP i x hx
        rw [add_none] at h1
        have hcl := cells_at h1
        rw [h2.is] at hcl
        exact ⟨va, vc, hcl 0 (by omega), hcl 1 (by omega), hcl 2 (by omega), h2.lin.src⟩
theorem open_inL {H : Type} {enc : TypeId × Value → H} {W : World} {base : Nat} {v : Value} {d : DataW H} {p : List MemPlace} (hval : Value.okWide Try.prog W .any base 22 v) (h : DataW.Trod enc Try.prog W 0 (fun _ => true) true 22 v d p) (hB : Rows.uptoBulk d ≤ 1048576) :
    ∃ a vc l, v = .slice a l.length vc ∧ EqIn W a l ∧ l.length ≤ vc ∧ InL l ∧ EqSr W a l := by
  obtain ⟨a, n, c, rfl⟩ := okWide_slice Try.underlying22 hval
  obtain ⟨fuel, hf⟩ := h
  obtain ⟨a', vc, l, e, h1, h2, h3, h4, h5, h6, h7⟩ := open_equs hf
  cases e
  refine ⟨_, _, l, rfl, h1, h3, ⟨by omega, fun q hq => ?_, fun q hq => ?_, fun q hq t ht => ?_, fun q hq t ht => ?_, fun q hq => ?_, by omega⟩, h6⟩ <;> obtain ⟨va, vc2, hc⟩ := h5 q hq
  · have := hc.name; omega
  · have := hc.lin.few; omega
  · have := (hc.lin.each t ht).2.2; omega
  · exact ⟨(hc.lin.each t ht).1, (hc.lin.each t ht).2.1⟩
  · exact ⟨hc.lin.lo, hc.lin.hi⟩
end Go.Proofs.Ytebbbefknfldoaa
