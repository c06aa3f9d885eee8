/- The walk of DecodeBack. -/
import Derived.Test.YthboapfbgdcdoaaDoorApartM
import Derived.Lib.Strings
import Derived.Test.YthboapfbgdcdoaaDoorBackM
import Derived.Test.YthboapfbgdcdoaaDoorKnown
import Derived.Deep.DeepCutAuto
import Derived.Deep.CutRange
/- The law EncodeApart, walked. -/
namespace Go.Proofs.YthboapfbgdcdoaaDoor
open Go.ChangeShapes Go.WideShapes Go.ChangeAt Go.RowKit
set_option linter.unusedVariables false
set_option maxRecDepth 100000

theorem str_ne {s t : ByteArray} (h : s ≠ t) : (s.toList == t.toList) = false := by
  rw [Lib.toList_data, Lib.toList_data]
  simp only [beq_eq_false_iff_ne, ne_eq]
  intro he
  apply h
  cases s
  cases t
  simpa using he

theorem lies_take {w : World} {a : Option Addr} {zs : List Int} (h : Lies w a zs) (k : Nat) : Lies w a (zs.take k) := by
  refine ⟨areBytes_take _ h.1 _, ?_⟩
  rcases h.2 with rfl | ⟨b, off, ha, hc⟩
  · exact .inl (by simp)
  · refine .inr ⟨b, off, ha, fun i hi => ?_⟩
    rw [List.length_take] at hi
    rw [hc i (by omega)]
    simp [List.getElem?_take_of_lt (show i < k by omega)]

end Go.Proofs.YthboapfbgdcdoaaDoor
namespace Go.Proofs.YthboapfbgdcdoaaDoor
open Go.ChangeShapes Go.WideShapes Go.ChangeAt Go.RowKit
set_option linter.unusedVariables false
set_option maxRecDepth 100000

theorem known_all {w : World} (hT : Tab w) (p : BelowOf w) : Calls Tryd.prog 10 #[] p.wd fun e w' => e = .returned (.bool true) ∧ Below p.wd.heap.size p.wd w' := known_any _ (hT.below p.h hT.size)

theorem sl_none (w : World) : SlB (w.alloc (.cells #[] 5)) w.heap.size (some ⟨w.heap.size, 0, none⟩) 0 0 [] := ⟨rfl, own_new w [] (by simp), fun z hz => by cases hz⟩

theorem app_lies {ops : Array Oper} {rest : List Oper} {o : Oper} {a : Act} {Q : Exit → Act → World → Prop} (w : World) (hgd : o.guard = none) (s x : Operand)
    (ho : o.op = .call { callee := .builtin .append, args := #[s, x], argTypes := #[22, 22] }) (base : Nat) (a1 : Option Addr) (m1 c1 : Nat) (zs : List Int) (a3 : Option Addr) (m3 c3 : Nat) (ts : List Int)
    (hs : a.eval s = .slice a1 m1 c1) (hx : a.eval x = .slice a3 m3 c3) (h1 : SlB w base a1 m1 c1 zs) (hm3 : m3 = ts.length) (hl : Lies w a3 ts) (hna : a3 = none → m3 = 0 ∧ c3 = 0) (hm : zs.length + ts.length ≤ 140737488355328) (hbase : base ≤ w.heap.size)
    (h : ∀ a' k' c' w', SlB w' base a' k' c' (zs ++ ts) → Below base w w' → wpList Tryd.prog ops Q rest (a.put o.dst (.slice a' k' c')) w') : wpList Tryd.prog ops Q (o :: rest) a w := by
  obtain ⟨rfl, hg1, hz1⟩ := h1
  subst hm3
  exact app_law w hgd s x ho base _ zs ts hs hg1 a3 c3 hx hl hna hm hbase fun a' c' w' hg hb => h a' _ c' w' ⟨rfl, hg, areBytes_append hz1 hl.1⟩ hb

theorem SlB.cap {w : World} {lo : Nat} {a : Option Addr} {m c : Nat} {zs : List Int} (h : SlB w lo a m c zs) : m ≤ c := by
  have := h.got.cap
  rw [h.len]
  exact this

set_option maxHeartbeats 4000000 in
theorem back_law (op a b n f : Int) (a1 : Option Addr) (zs1 : List Int) (m1 c1 : Nat) (hm1 : m1 = zs1.length) (a2 : Option Addr) (zs2 : List Int) (m2 c2 : Nat) (hm2 : m2 = zs2.length) (at' : Int) (w : World) (hT : Tab w)
    (bo : -9223372036854775808 ≤ op ∧ op ≤ 9223372036854775807) (hn : -2147483648 ≤ n ∧ n ≤ 2147483647) (bf : -9223372036854775808 ≤ f ∧ f ≤ 9223372036854775807)
    (hl1 : Lies w a1 zs1) (hc1 : m1 ≤ c1) (hno1 : a1 = none → m1 = 0 ∧ c1 = 0) (hl2 : Lies w a2 zs2) (hc2 : m2 ≤ c2) (hno2 : a2 = none → m2 = 0 ∧ c2 = 0) (ha : -9223372036854775808 ≤ at' ∧ at' ≤ 9223372036854775807) (hsum : m1 + m2 ≤ 1048576) :
    Calls Tryd.prog 5 #[instV op a b n f, .slice a1 m1 c1, .slice a2 m2 c2, .int .i64 at'] w fun e w' => e = .returned (.bool true) ∧ Below w.heap.size w w' := by
  have hb0 := Hid.intro (below_alloc w (.cells #[.int .i64 op, .int .i64 a, .int .i64 b, .int .i32 n, .int .i64 f] 26))
  have hI0 := Hid.intro (inst_new w op a b n f)
  have hTH := Hid.intro hT
  have hT0 := Hid.intro (hT.alloc (.cells #[.int .i64 op, .int .i64 a, .int .i64 b, .int .i32 n, .int .i64 f] 26))
  obtain ⟨i0, i1, i2, i3, i4, _⟩ := hI0.out
  have hEn := Hid.intro (fun W hW => encode_held op a b n f W hW hn)
  have hl1H := Hid.intro hl1
  have hl2H := Hid.intro hl2
  have hno1H := Hid.intro hno1
  have hno2H := Hid.intro hno2
  have hm1H := Hid.intro hm1
  have hm2H := Hid.intro hm2
  have hm1' : (m1 : Int) ≤ 1048576 := by omega
  have hm2' : (m2 : Int) ≤ 1048576 := by omega
  clear hT hl1 hl2 hno1 hno2 bo bf hm1 hm2
  go_enter Tryd.func5, Tryd.ntmps5
  go_upto_if 26 with (go_at_call 14; (with_reducible refine (hEn.out _ hT0.out).mono ?_); rintro e w1 ⟨aE, mE, cE, rfl, hsE, hb1⟩; have hT1 := Hid.intro (hT0.out.below hb1 hT0.out.size); have hI1 := Hid.intro (hI0.out.below hb1 hI0.out.lt); have hw1 := Hid.intro (chain2 hb0.out hb1); replace hsE := Hid.intro hsE; clear hb1)
  go_cut [10] (fun v10 wx => Below w.heap.size w wx)
  case first =>
    obtain ⟨C, hC⟩ : ∃ C, checkN op a b n f = C := ⟨_, rfl⟩
    rw [hC]
    by_cases hc0 : C = 0
    · subst hc0
      have hL : encR op a b n f = encL op a b n f := by rw [encR, if_pos hC]
      rw [hL] at hsE
      obtain ⟨d1, d2, d3⟩ := enc_dec hC hn zs1 zs2
      have hV : decV (zs1 ++ (encL op a b n f ++ zs2)) (m1 : Int) = .tuple #[instV op a b n f, .int .i64 (mE : Int), .int .i64 0] := by
        rw [hm1H.out, decV, d1, d2, d3, hsE.out.len]
        rfl
      have hlE : (encL op a b n f).length ≤ 7 := encL_len _ _ _ _ _
      generalize encL op a b n f = L at *
      have hDe : Hid (∀ (W : World) (base : Nat) (a' : Option Addr) (k' c' : Nat), SlB W base a' k' c' ((([] ++ zs1) ++ L) ++ zs2) → Tab W → Calls Tryd.prog 8 #[.slice a' k' c', .int .i64 (m1 : Int)] W fun e w' => e = .returned (.tuple #[instV op a b n f, .int .i64 (mE : Int), .int .i64 0]) ∧ Below W.heap.size W w') := by
        intro W base a' k' c' hs hW
        have e : (([] ++ zs1) ++ L) ++ zs2 = zs1 ++ (L ++ zs2) := by simp
        rw [e] at hs
        rw [← hV]
        have h7 := hs.len
        simp only [List.length_append] at h7
        exact decode_any a' c' k' _ m1 W hs.len hW hs.lies hs.cap (by have := hm1H.out; have := hm2H.out; omega) (by omega)
      have hk1 : Hid (([] : List Int).length + zs1.length ≤ 140737488355328) := (show _ ≤ _ by have := hm1H.out; simp; omega)
      have hk2 : Hid (([] ++ zs1).length + L.length ≤ 140737488355328) := (show _ ≤ _ by have := hm1H.out; simp; omega)
      have hk3 : Hid ((([] ++ zs1) ++ L).length + zs2.length ≤ 140737488355328) := (show _ ≤ _ by have := hm1H.out; have := hm2H.out; simp; omega)
      have hmE : Hid (mE = L.length) := hsE.out.len
      clear hV d1 d2 d3 hL hlE hC
      have hlb : Hid (∀ W, Below w.heap.size w W → Lies W a1 zs1 ∧ Lies W a2 zs2) := fun W hW => ⟨hl1H.out.below hW, hl2H.out.below hW⟩
      go_wp2_with (first
        | (at_builtin; (refine app_lies _ rfl (.tmp 27) (.tmp 28) rfl w1.heap.size _ 0 0 [] a1 m1 c1 zs1 rfl rfl (sl_none w1) hm1H.out (hlb.out _ (chain2 hw1.out (below_alloc w1 _))).1 hno1H.out hk1.out (by simp) ?_); intro a3 k3 c3 w3 hs3 hb3; replace hb3 := Hid.intro ((below_alloc w1 (.cells #[] 5)).trans hb3); have hs3 := Hid.intro hs3; have hw3 := Hid.intro (chain2 hw1.out hb3.out))
        | (at_builtin; (refine app_held _ rfl (.tmp 29) (.tmp 30) rfl w1.heap.size a3 k3 c3 ([] ++ zs1) _ aE mE cE L rfl rfl hs3.out (hsE.out.below hb3.out) hk2.out hb3.out.size ?_); intro a4 k4 c4 w4 hs4 hb4; replace hb4 := Hid.intro (hb3.out.trans hb4); have hs4 := Hid.intro hs4; have hw4 := Hid.intro (chain2 hw1.out hb4.out))
        | (at_builtin; (refine app_lies _ rfl (.tmp 31) (.tmp 32) rfl w1.heap.size a4 k4 c4 (([] ++ zs1) ++ L) a2 m2 c2 zs2 rfl rfl hs4.out hm2H.out (hlb.out _ hw4.out).2 hno2H.out hk3.out hb4.out.size ?_); intro a5 k5 c5 w5 hs5 hb5; replace hb5 := Hid.intro (hb4.out.trans hb5); have hs5 := Hid.intro hs5; have hw5 := Hid.intro (chain2 hw1.out hb5.out); have hT5 := Hid.intro (hT1.out.below hb5.out hT1.out.size))
        | (go_at_call 8; (with_reducible refine (hDe.out _ _ _ _ _ hs5.out hT5.out).mono ?_); rintro e w6 ⟨rfl, hb6⟩; have hb7 := Hid.intro (chain2 (chain2 hb5.out hb6) (below_alloc w6 (.cells #[.int .i64 op, .int .i64 a, .int .i64 b, .int .i32 n, .int .i64 f] 26))); obtain ⟨p0, p1, p2, p3, p4, _⟩ := hI1.out.below hb7.out hI1.out.lt; obtain ⟨q0, q1, q2, q3, q4, _⟩ := inst_new w6 op a b n f; clear hb6))
      go_meet
      exact chain2 hw1.out hb7.out
    · have e0 : (C == 0) = false := by simpa using hc0
      go_wp2
      go_meet
      exact hw1.out
  case rest =>
    have hwc := Hid.intro hcut
    have hTc := Hid.intro (hTH.out.below hcut hTH.out.size)
    have hlc := Hid.intro (hl2H.out.below hcut)
    have hDe := Hid.intro (decode_any a2 c2 m2 zs2 at' wc hm2H.out hTc.out hlc.out hc2 (by omega) ha)
    clear hcut hI0 hT0 hTH hl1H hno1H hb0 i0 i1 i2 i3 i4 hEn hsE hT1 hI1 hw1
    unfold decV at hDe
    by_cases hE : decE zs2 at' = 0
    · obtain ⟨k, nn, rfl, hL, hn1, hn10, hkn, hchk, hok, henc⟩ := dec_enc hlc.out.1 hE
      rw [hE, hL] at hDe
      obtain ⟨b2, off2, rfl, hcc⟩ : ∃ b2 off2, a2 = some ⟨b2, off2, none⟩ ∧ Lies wc (some ⟨b2, off2 + k, none⟩) ((zs2.drop k).take nn) := by
        rcases hlc.out.2 with h | ⟨b2, off2, ha2, _⟩
        · rw [h] at hkn; simp at hkn; omega
        · subst ha2
          exact ⟨b2, off2, rfl, lies_sub hlc.out k nn⟩
      have hlen : ((zs2.drop k).take nn).length = nn := by simp; omega
      generalize decX zs2 (k : Int) = X at *
      obtain ⟨xo, xa, xb, xn, xf⟩ := X
      unfold Ins.val at hDe
      simp only [Ins.chk, Ins.ok] at hDe hchk hok henc
      have hR : encR xo xa xb xn xf = (zs2.drop k).take nn := by rw [encR, if_pos hchk, henc]
      have hEn := Hid.intro (fun W hW => encode_at hchk hR W hW hok)
      rw [← hm2H.out] at hkn
      generalize (zs2.drop k).take nn = CL at *
      have hccH := Hid.intro hcc
      have hlenH := Hid.intro hlen
      obtain ⟨K2, hK2⟩ : ∃ K2 : Nat, k + nn = K2 := ⟨_, rfl⟩
      have eq1 : IntKind.i64.wrap ((k : Int) + nn) = (K2 : Int) := by rw [IntKind.wrap_i64, ← hK2]; omega
      have eq4 : K2 ≤ m2 := by rw [← hK2]; exact hkn
      have eq3 : (K2 : Int) ≤ (m2 : Int) := by exact_mod_cast eq4
      have eq5 : K2 ≤ c2 := Nat.le_trans eq4 hc2
      have eq6 : k ≤ K2 := by rw [← hK2]; exact Nat.le_add_right _ _
      have eq7 : ¬ (c2 = k) := by omega
      have eq8 : ¬ (k = c2) := by omega
      have eq9 : Hid (K2 - k = nn) := (show _ = _ by omega)
      have eq10 : (k : Int) ≤ (K2 : Int) := by exact_mod_cast eq6
      have eq11 : (K2 : Int) ≤ (c2 : Int) := by exact_mod_cast eq5
      clear hK2
      obtain ⟨S, hS⟩ : ∃ S, strOfNums CL = S := ⟨_, rfl⟩
      have hSH := Hid.intro hS
      have hknH := Hid.intro hkn
      have hc2H := Hid.intro hc2
      have hsumH := Hid.intro hsum
      clear hkn hc2 hsum hc1
      clear hE hL hchk hok henc hR hcc hlen hS hlc hn1 hn10 ha
      go_wp2_with (first
        | (go_at_call 8; (with_reducible refine hDe.out.mono ?_); rintro e w2 ⟨rfl, hb2⟩; have hI2 := Hid.intro (inst_new w2 xo xa xb xn xf); obtain ⟨i0, i1, i2, i3, i4, _⟩ := hI2.out; have hb2' := Hid.intro (chain2 hb2 (below_alloc w2 (.cells #[.int .i64 xo, .int .i64 xa, .int .i64 xb, .int .i32 xn, .int .i64 xf] 26))); have hT2 := Hid.intro (hTc.out.below hb2'.out hTc.out.size); clear hb2)
        | (go_at_call 14; (with_reducible refine (hEn.out _ hT2.out).mono ?_); rintro e w4 ⟨a4, m4, c4, rfl, hs4, hb4⟩; obtain rfl : nn = m4 := hlenH.out.symm.trans hs4.len.symm; have hb4' := Hid.intro (chain2 hb2'.out hb4); have hT4 := Hid.intro (hTc.out.below hb4'.out hTc.out.size); replace hs4 := Hid.intro hs4; clear hb4))
      have k1 : ∀ p : BelowOf w4, (convert 22 9 (.slice a4 nn c4)).run Tryd.prog p.wd = .ok (.string S) p.wd := fun p => by
        rw [← hSH.out]
        exact conv_lies hs4.out.len (hs4.out.lies.below p.h)
      have k2 : ∀ p : BelowOf w4, (convert 22 9 (.slice (some ⟨b2, off2 + k, none⟩) (K2 - k) (c2 - k))).run Tryd.prog p.wd = .ok (.string S) p.wd := fun p => by
        rw [← hSH.out]
        exact conv_lies (eq9.out.trans hlenH.out.symm) (hccH.out.below (chain2 hb4'.out p.h))
      have hkn2 := Hid.intro (known_all hT4.out)
      refine wp_region_quiet_below (by kernel_rfl) (by kernel_rfl) ?_
      repeat (first | (with_reducible refine wpQuiet_skip (by with_unfolding_all rfl) ?_; simp only [Act.put, List.setIfInBounds_toArray, List.set_cons_zero, List.set_cons_succ]) | (with_reducible refine wpQuiet_step (fun K hK => ?_); go_simp; first | (with_reducible refine hK _ ?_; clear hK K) | (apply Exists.intro; refine ⟨fun _ => ?_, hK _ ?_⟩; (go_at_call 10; with_reducible refine below_calls (hkn2.out _)); clear hK K)))
      with_reducible refine wpQuiet_nil ?_
      intro _ hw'
      obtain ⟨pq, hw''⟩ := hw'
      subst hw''
      clear k1 k2
      go_wp2_with fail
      go_ret
      exact ⟨rfl, chain2 (chain2 hwc.out hb4'.out) pq.h⟩
    · generalize decX zs2 at' = X at *
      obtain ⟨xo, xa, xb, xn, xf⟩ := X
      unfold Ins.val at hDe
      simp only at hDe
      generalize decL zs2 at' = L2 at *
      generalize decE zs2 at' = E at *
      have e0 : (E == 0) = false := by simpa using hE
      have e1 : (E != 0) = true := by simpa using hE
      clear hE
      go_wp2_with (first
        | (go_at_call 8; (with_reducible refine hDe.out.mono ?_); rintro e w2 ⟨rfl, hb2⟩; have hb2' := Hid.intro (chain2 hb2 (below_alloc w2 (.cells #[.int .i64 xo, .int .i64 xa, .int .i64 xb, .int .i32 xn, .int .i64 xf] 26))); have hT2 := Hid.intro (hTc.out.below hb2'.out hTc.out.size); clear hb2)
        | (go_at_call 10; (with_reducible refine (known_any _ hT2.out).mono ?_); rintro e w3 ⟨rfl, hb3⟩; replace hb3 := Hid.intro hb3))
      go_ret
      exact ⟨rfl, chain2 (chain2 hwc.out hb2'.out) hb3.out⟩
end Go.Proofs.YthboapfbgdcdoaaDoor
