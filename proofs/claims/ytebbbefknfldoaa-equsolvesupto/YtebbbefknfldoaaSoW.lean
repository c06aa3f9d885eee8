/- EquSolves: its walk. -/
import Derived.Test.YtebbbefknfldoaaRCy
import Derived.Test.YtebbbefknfldoaaTurnW
import Derived.Test.YtebbbefknfldoaaRefRight
namespace Go.Proofs.Ytebbbefknfldoaa
open Go.ChangeShapes Go.WideShapes Go.ChangeAt Go.RowKit Go.Sort
set_option linter.unusedVariables false
set_option linter.unusedSimpArgs false
set_option maxRecDepth 100000
theorem first_unique {l : List Eqv} {a b : Nat} (h1 : FirstC l a) (h2 : FirstC l b) : a = b := by
  have := h1.2.2 b h2.1 h2.2.1
  have := h2.2.2 a h1.1 h1.2.1
  omega
set_option maxHeartbeats 16000000 in
theorem solves_any (l : List Eqv) (la : Option Addr) (lc : Nat) (h0 : la = none → lc = 0) (hI : InL l) (x : Lin) (xa : Option Addr) (xc : Nat) (hsum : (nmsOf l).length + x.terms.length ≤ 1048576) (hx3 : ∀ t ∈ x.terms, t.name.length ≤ 1048576) (hx4 : ∀ t ∈ x.terms, 0 ≤ t.coef ∧ t.coef < 4294967296) (hx5 : 0 ≤ x.const ∧ x.const < 4294967296) (w : World) (hE : EqIn w la l) (hT : TmLies w xa x.terms) :
    Calls Try.prog 4 #[.slice la l.length lc, linV (.slice xa x.terms.length xc) x.const] w fun e w' => e = .returned (.bool true) ∧ Below w.heap.size w w' := by
  have hB0 : Below w.heap.size w (w.alloc (.cells #[.slice xa x.terms.length xc, .int .u32 x.const] 29)) := below_alloc w _
  have hT0 : Two (w.alloc (.cells #[.slice xa x.terms.length xc, .int .u32 x.const] 29)) w.heap.size 29 (.slice xa x.terms.length xc) (.int .u32 x.const) := two_new w 29 _ _
  have hx2 : x.terms.length ≤ 1048576 := by omega
  have h15 : Hid (∀ W, Below w.heap.size w W → Calls Try.prog 15 #[.slice la l.length lc] W fun e w' => e = .returned (.bool (rightB l)) ∧ Below W.heap.size W w') := fun W hb => hI.rightC la lc W (hE.below hb)
  have h16 : Hid (∀ W, Below w.heap.size w W → Calls Try.prog 16 #[linV (.slice xa x.terms.length xc) x.const] W fun e w' => e = .returned (.bool (rightF none x.terms)) ∧ Below W.heap.size W w') := fun W hb => refRight_any xa xc x.terms x.const W (hT.below hb (Nat.le_refl _)) (by omega) (fun t ht => by have := hx3 t ht; omega)
  have h14 := Hid.intro known_any
  have hcan : rightF none x.terms = true → CanL x := fun h => ⟨right_canon hx4 h, hx5⟩
  by_cases hR : RightP l
  rotate_left
  · rw [rightB_neg hR] at h15
    have hB0H := Hid.intro hB0
    generalize x.terms.length = xn at *
    generalize l.length = n at *
    clear hR hI hE hT hT0 hcan h16 hB0
    go_enter Try.func4, Try.ntmps4
    go_wp2_with (first
      | (go_at_call 15; (with_reducible refine (h15.out _ hB0H.out).mono ?_); rintro e w2 ⟨rfl, hb2⟩; have hB2 := Hid.intro (hB0H.out.trans (hb2.mono hB0H.out.size)); clear hb2)
      | (go_at_call 14; (with_reducible refine (h14.out _).mono ?_); rintro e w4 ⟨rfl, hb4⟩))
    all_goals first | omega | skip
    go_ret
    exact ⟨rfl, hB2.out.trans (hb4.mono hB2.out.size)⟩
  · have hS := hI.right hR
    rw [rightB_pos hR] at h15
    have hnS : ∀ t ∈ x.terms, t.name ∈ nmsOf l ++ x.terms.map (·.name) := fun t ht => List.mem_append_right _ (List.mem_map.2 ⟨t, ht, rfl⟩)
    have hnL : ∀ q ∈ l, ∀ t ∈ q.2.terms, t.name ∈ nmsOf l ++ x.terms.map (·.name) := fun q hq t ht => List.mem_append_left _ (nms_mem hq ht)
    have hSl : (nmsOf l ++ x.terms.map (·.name)).length ≤ 1048576 := by rw [List.length_append, List.length_map]; omega
    have hSn : ∀ s ∈ nmsOf l ++ x.terms.map (·.name), s.length ≤ 140737488355328 := fun s hs => by
      rcases List.mem_append.1 hs with hs | hs
      · exact hS.nml s hs
      · obtain ⟨t, ht, rfl⟩ := List.mem_map.1 hs
        have := hx3 t ht
        omega
    have hl1000 : l.length ≤ 1000 := by have := hS.len; omega
    obtain ⟨P, hP⟩ : ∃ P, P = putN (eqF l) x := ⟨_, rfl⟩
    have hPl : CanL x → P.terms.length ≤ 1048576 := fun hxc => by
      rw [hP]
      refine Nat.le_trans (canon_len (putN_can _ _).terms (S := nmsOf l ++ x.terms.map (·.name)) fun t ht => ?_) hSl
      rcases mem_putN ht with ⟨u, hu, e, _⟩ | ⟨s, e, he, u, hu, e2⟩
      · rw [← e]; exact hnS u hu
      · rw [← e2]
        obtain ⟨q, hq, _, rfl⟩ := eqF_some he
        exact hnL q hq u hu
    have s12 : CanL x → Hid (∀ W, Hid (Below w.heap.size w W) → (Below w.heap.size w W → W.cell? ⟨w.heap.size, 0, none⟩ = some (.slice xa x.terms.length xc) ∧ W.cell? ⟨w.heap.size, 1, none⟩ = some (.int .u32 x.const)) → Calls Try.prog 12 #[linV (.slice xa x.terms.length xc) x.const, .slice la l.length lc] W fun e W' => ∃ a2 c2, e = .returned (linV (.slice a2 P.terms.length c2) P.const) ∧ Hid (TmLies W' a2 P.terms) ∧ Hid (Below W.heap.size W W')) := fun hxc W hb _ => by
      have := putL_any l x (nmsOf l ++ x.terms.map (·.name)) (by omega) hSn hxc hnS hl1000 (fun q hq => ⟨hS.nm q hq, hS.can q hq, hnL q hq⟩) xa la xc lc W (hT.below hb.out (Nat.le_refl _)) (hE.below hb.out)
      refine this.mono ?_
      rintro e W' ⟨hb', v, rfl, ho⟩
      rw [← hP] at ho ⊢
      obtain ⟨a2, c2, rfl⟩ := own_slice ho
      exact ⟨a2, c2, rfl, own_tmLies ho, hb'⟩
    have s19 : CanL x → Hid (∀ W, Hid (Below w.heap.size w W) → Calls Try.prog 19 #[linV (.slice xa x.terms.length xc) x.const, .slice la l.length lc] W fun e W' => ∃ a3 c3, e = .returned (linV (.slice a3 P.terms.length c3) P.const) ∧ Hid (TmLies W' a3 P.terms) ∧ Hid (Below W.heap.size W W')) := fun hxc W hb => by
      have := refPut_any l la lc x xa xc (nmsOf l ++ x.terms.map (·.name)) (by omega) hl1000 hS.nd (fun q hq => ⟨hS.can q hq, hnL q hq⟩) hxc hnS W (hE.below hb.out) (hT.below hb.out (Nat.le_refl _))
      refine this.mono ?_
      rintro e W' ⟨hb', a, n, c, rfl, hn, ho⟩
      rw [← hP] at ho hn ⊢
      subst hn
      exact ⟨a, c, rfl, own_tmLies ho, hb'⟩
    obtain ⟨ss, hss⟩ : ∃ ss, ss = srtD (backN l) := ⟨_, rfl⟩
    have hheld := hS.held
    have hts : ∀ q ∈ l, q.2.terms.length ≤ 9000000 := fun q hq => by have := (hheld q hq).2.1; omega
    have hslen : ss.length ≤ 1000 := by
      have h1 := (srtD_facts (backN l)).2.2.1
      rw [← hss, backN_len] at h1
      have h2 := backT_len l l.length
      have e : backT l l.length = backL l := rfl
      rw [e] at h2
      omega
    have s20 : Hid (∀ W, Hid (Below w.heap.size w W) → Calls Try.prog 20 #[.slice la l.length lc] W fun e W' => ∃ a c, e = .returned (.slice a ss.length c) ∧ Hid (StIn W' a ss) ∧ Hid (Below W.heap.size W W')) := fun W hb => by
      refine (refCycle_any l la lc hl1000 hS.nd hts W (hE.below hb.out)).mono ?_
      rintro e W' ⟨hb', a, c, rfl, h1, _⟩
      rw [← hss] at h1 ⊢
      exact ⟨a, c, rfl, h1, hb'⟩
    have s10 : Hid (∀ W, Hid (Below w.heap.size w W) → Calls Try.prog 10 #[.slice la l.length lc] W fun e W' => ∃ a c, e = .returned (.slice a ss.length c) ∧ Hid (StIn W' a ss) ∧ Hid (Below W.heap.size W W')) := fun W hb => by
      refine (cycle_in hS la lc W (hE.below hb.out)).mono ?_
      rintro e W' ⟨hb', v, s2, rfl, ho, h1, h2, h3⟩
      obtain ⟨a, c, rfl⟩ := own_slice ho
      obtain ⟨h4, h5⟩ := own_stIn ho
      have f1 := (srtD_facts (backN l)).1
      have f2 := (srtD_facts (backN l)).2.1
      have e2 : s2 = ss := by
        rw [hss]
        exact rise_unique h1 (up_le f1).1 h2 (up_le f1).2 (fun x => (h3 x).trans (by rw [f2, backN_mem]))
      subst e2
      exact ⟨a, c, rfl, h4, hb'⟩
    have s13 : Hid (∀ W a c a3 c3, Hid (StIn W a ss) → Hid (StIn W a3 ss) → Calls Try.prog 13 #[.slice a ss.length c, .slice a3 ss.length c3] W fun e W' => e = .returned (.bool true) ∧ Hid (Below W.heap.size W W')) := fun W a c a3 c3 h1 h2 => by
      refine (sameStr_is ss ss (by omega) (by omega) a a3 c c3 W h1.out h2.out).mono ?_
      rintro e W' ⟨rfl, hb⟩
      exact ⟨by rw [sqB_pos rfl], hb⟩
    have s11 : CanL x → Hid (∀ W a2 c2 a3 c3, Hid (TmLies W a2 P.terms) → Hid (TmLies W a3 P.terms) → Calls Try.prog 11 #[linV (.slice a2 P.terms.length c2) P.const, linV (.slice a3 P.terms.length c3) P.const] W fun e W' => e = .returned (.bool true) ∧ Hid (Below W.heap.size W W')) := fun hxc W a2 c2 a3 c3 h1 h2 => by
      have := hPl hxc
      refine (refSame_any a2 a3 c2 c3 P.terms P.terms P.const P.const W h1.out h2.out (by omega) (by omega)).mono ?_
      rintro e W' ⟨rfl, hb⟩
      exact ⟨by rw [show sameL P.terms P.terms P.const P.const = true from by simp [sameL]], hb⟩
    -- what Solve and the document's answer
    have s8 : Hid (∀ W, Hid (Below w.heap.size w W) → Calls Try.prog 8 #[.slice la l.length lc] W fun e W1 => ∃ (M : List Eqv) (a1 : Option Addr) (c1 : Nat) (k d : Int), e = .returned (.tuple #[.slice a1 M.length c1, .int .i64 k, .int .i64 d]) ∧ Hid (EqIn W1 a1 M) ∧ Hid (Below W.heap.size W W1) ∧ Hid (∀ W2, Hid (Below w.heap.size w W2) → Calls Try.prog 17 #[.slice la l.length lc] W2 fun e W3 => ∃ a3 c3, e = .returned (.tuple #[.slice a3 M.length c3, .int .i64 k, .int .i64 d]) ∧ Hid (EqIn W3 a3 M) ∧ Hid (Below W2.heap.size W2 W3)) ∧
        Hid (∀ W a1 c1 a3 c3, Hid (EqIn W a1 M) → Hid (EqIn W a3 M) → Calls Try.prog 18 #[.slice a1 M.length c1, .slice a3 M.length c3] W fun e W' => e = .returned (.bool true) ∧ Hid (Below W.heap.size W W'))) := fun W hb => by
      by_cases hc : ∀ x, ¬ CycN l x
      · refine (solve_good hS hc la lc W (hE.below hb.out)).mono ?_
        rintro e W1 ⟨g1, rfl, hm, hb1⟩
        have hlen : (solL l).length = l.length := solL_len
        refine ⟨solL l, some ⟨g1, 0, none⟩, l.length, 0, 0, by rw [hlen], hm, hb1, fun W2 hb2 => ?_, fun W' b1 d1 b3 d3 k1 k3 => ?_⟩
        · refine (refSolve_ok hS (by omega) hc la lc h0 W2 (hE.below hb2.out)).mono ?_
          rintro e W3 ⟨a3, c3, rfl, hm3, hb3⟩
          exact ⟨a3, c3, by rw [hlen], hm3, hb3⟩
        · have htm : ∀ q ∈ solL l, q.2.terms.length ≤ 9000000 := fun q hq => by
            obtain ⟨_, p1, p2⟩ := solL_mem hS q hq
            have := canon_len p1.terms p2
            have := hS.nms
            omega
          refine (sameEqus_is (solL l) (solL l) (by rw [hlen]; omega) (by rw [hlen]; omega) htm htm b1 b3 d1 d3 W' k1.out k3.out).mono ?_
          rintro e W4 ⟨rfl, hb4⟩
          exact ⟨by rw [sqB_pos rfl], hb4⟩
      · have hcx : ∃ x, CycN l x := Classical.byContradiction fun h => hc fun x hx => h ⟨x, hx⟩
        refine (solve_not hS hcx la lc W (hE.below hb.out)).mono ?_
        rintro e W1 ⟨m, rfl, hF, hb1⟩
        refine ⟨[], none, 0, (m : Int), 24, rfl, .inl rfl, hb1, fun W2 hb2 => ?_, fun W' b1 d1 b3 d3 k1 k3 => ?_⟩
        · refine (refSolve_bad hS hcx la lc W2 (hE.below hb2.out)).mono ?_
          rintro e W3 ⟨m2, rfl, hF2, hb3⟩
          rw [first_unique hF2 hF]
          exact ⟨none, 0, rfl, .inl rfl, hb3⟩
        · refine (sameEqus_is [] [] (Nat.zero_le _) (Nat.zero_le _) (fun q hq => by cases hq) (fun q hq => by cases hq) b1 b3 d1 d3 W' k1.out k3.out).mono ?_
          rintro e W4 ⟨rfl, hb4⟩
          exact ⟨by rw [sqB_pos rfl], hb4⟩
    generalize hbx : rightF none x.terms = bx at h16 hcan
    have hB0H := Hid.intro hB0
    have hT0H := Hid.intro hT0
    have hlH := Hid.intro hS.len
    cases bx with
    | false =>
      generalize x.terms.length = xn at *
      generalize l.length = n at *
      clear s8 s10 s20 s13 s11 s12 s19 hPl hcan hI hS hE hT hT0 hB0 hss hts hheld hslen hlH hSl hSn hnS hnL hbx hP hx3 hx4
      obtain ⟨_, y0, y1, _, _⟩ := hT0H.out
      go_enter Try.func4, Try.ntmps4
      go_wp2_with (first
        | (go_at_call 15; (with_reducible refine (h15.out _ hB0H.out).mono ?_); rintro e w2 ⟨rfl, hb2⟩; obtain ⟨_, z0, z1, _, _⟩ := hT0H.out.below hb2 hT0H.out.lt'; replace hb2 := Hid.intro hb2; have hB2 := Hid.intro (hB0H.out.trans (hb2.out.mono hB0H.out.size)))
        | (go_at_call 16; (with_reducible refine (h16.out _ hB2.out).mono ?_); rintro e w3 ⟨rfl, hb3⟩; replace hb3 := Hid.intro hb3; have hB3 := Hid.intro (hB2.out.trans (hb3.out.mono hB2.out.size)))
        | (go_at_call 14; (with_reducible refine (h14.out _).mono ?_); rintro e w4 ⟨rfl, hb4⟩))
      all_goals first | omega | skip
      go_ret
      exact ⟨rfl, hB3.out.trans (hb4.mono hB3.out.size)⟩
    | true =>
      have hxc := hcan rfl
      have s11 := s11 hxc
      have s19 := s19 hxc
      have s12 := s12 hxc
      have hpl := Hid.intro (hPl hxc)
      generalize x.terms.length = xn at *
      generalize l.length = n at *
      generalize P.terms.length = pn at *
      generalize P.const = pk at *
      generalize x.const = xk at *
      have hsl2 := Hid.intro hslen
      clear hPl hcan hI hS hE hT hT0 hB0 hss hts hheld hslen hlH hSl hSn hnS hnL hbx hP hx3 hx4
      generalize ss.length = sn at *
      obtain ⟨_, y0, y1, _, _⟩ := hT0H.out
      go_enter Try.func4, Try.ntmps4
      go_upto_region 5 with (first
        | (go_at_call 15; (with_reducible refine (h15.out _ hB0H.out).mono ?_); rintro e w2 ⟨rfl, hb2⟩; obtain ⟨_, z0, z1, _, _⟩ := hT0H.out.below hb2 hT0H.out.lt'; replace hb2 := Hid.intro hb2; have hB2 := Hid.intro (hB0H.out.trans (hb2.out.mono hB0H.out.size)))
        | (go_at_call 16; (with_reducible refine (h16.out _ hB2.out).mono ?_); rintro e w3 ⟨rfl, hb3⟩; replace hb3 := Hid.intro hb3; have hB3 := Hid.intro (hB2.out.trans (hb3.out.mono hB2.out.size)))
        | (go_at_call 8; (with_reducible refine (s8.out _ hB3).mono ?_); rintro e w4 ⟨M, a1, c1, k, d, rfl, hM1, hb4, t17, t18⟩; have hB4 := Hid.intro (hB3.out.trans (hb4.out.mono hB3.out.size)); replace hB4 : Hid (Below w.heap.size w w4) := hB4)
        | (go_at_call 17; (with_reducible refine (t17.out _ hB4).mono ?_); rintro e w5 ⟨a3, c3, rfl, hM3, hb5⟩; have hB5 : Hid (Below w.heap.size w w5) := (hB4.out.trans (hb5.out.mono hB4.out.size))))
      all_goals first | omega | skip
      have hT5 := Hid.intro ((((hT0H.out.below hb2.out hT0H.out.lt').below hb3.out (Nat.lt_of_lt_of_le hT0H.out.lt' hb2.out.size)).below hb4.out (Nat.lt_of_lt_of_le hT0H.out.lt' (Nat.le_trans hb2.out.size hb3.out.size))).below hb5.out (Nat.lt_of_lt_of_le hT0H.out.lt' (Nat.le_trans (Nat.le_trans hb2.out.size hb3.out.size) hb4.out.size)))
      have hM5 : Hid (EqIn w5 a1 M) := (hM1.out.below hb5.out)
      have hst : Hid (∀ W, Hid (Below w5.heap.size w5 W) → W.cell? ⟨w.heap.size, 0, none⟩ = some (.slice xa xn xc) ∧ W.cell? ⟨w.heap.size, 1, none⟩ = some (.int .u32 xk)) := fun W hb => by
        have h1 := hT5.out.below hb.out hT5.out.lt'
        exact ⟨h1.c0, h1.c1⟩
      have hup : Hid (∀ W, Hid (Below w5.heap.size w5 W) → Hid (Below w.heap.size w W)) := fun W hb => (hB5.out.trans (hb.out.mono hB5.out.size))
      have hon : Hid (∀ W W', Hid (Below w5.heap.size w5 W) → Hid (Below W.heap.size W W') → Hid (Below w5.heap.size w5 W')) := fun W W' h1 h2 => (h1.out.trans (h2.out.mono h1.out.size))
      have r18 : Hid (Calls Try.prog 18 #[.slice a1 M.length c1, .slice a3 M.length c3] w5.drew fun e W' => e = .returned (.bool true) ∧ Hid (Below w5.heap.size w5 W') ∧ W'.cell? ⟨w.heap.size, 0, none⟩ = some (.slice xa xn xc) ∧ W'.cell? ⟨w.heap.size, 1, none⟩ = some (.int .u32 xk)) := by
        have hd : Below w5.heap.size w5 w5.drew := (Below.refl _ w5).drew
        refine (t18.out w5.drew a1 c1 a3 c3 (hM5.out.below hd) (hM3.out.below hd)).mono ?_
        rintro e W' ⟨rfl, hb⟩
        have h1 := hon.out _ _ hd hb
        obtain ⟨h2, h3⟩ := hst.out W' h1
        exact ⟨rfl, h1, h2, h3⟩
      have r12 : Hid (∀ W, Hid (Below w5.heap.size w5 W) → Calls Try.prog 12 #[linV (.slice xa xn xc) xk, .slice la n lc] W fun e W' => ∃ a2 c2, e = .returned (linV (.slice a2 pn c2) pk) ∧ Hid (TmLies W' a2 P.terms) ∧ Hid (Below w5.heap.size w5 W') ∧ W'.cell? ⟨w.heap.size, 0, none⟩ = some (.slice xa xn xc) ∧ W'.cell? ⟨w.heap.size, 1, none⟩ = some (.int .u32 xk)) := fun W hW => by
        refine (s12.out W (hup.out W hW) (fun _ => by have := hst.out W hW; exact this)).mono ?_
        rintro e W' ⟨a2, c2, rfl, ht, hb⟩
        have h1 := hon.out _ _ hW hb
        obtain ⟨h2, h3⟩ := hst.out W' h1
        exact ⟨a2, c2, rfl, ht, h1, h2, h3⟩
      have r19 : Hid (∀ W a2, Hid (TmLies W a2 P.terms) → Hid (Below w5.heap.size w5 W) → Calls Try.prog 19 #[linV (.slice xa xn xc) xk, .slice la n lc] W fun e W' => ∃ a3 c3, e = .returned (linV (.slice a3 pn c3) pk) ∧ Hid (TmLies W' a2 P.terms) ∧ Hid (TmLies W' a3 P.terms) ∧ Hid (Below w5.heap.size w5 W') ∧ W'.cell? ⟨w.heap.size, 0, none⟩ = some (.slice xa xn xc) ∧ W'.cell? ⟨w.heap.size, 1, none⟩ = some (.int .u32 xk)) := fun W a2 ht2 hW => by
        refine (s19.out W (hup.out W hW)).mono ?_
        rintro e W' ⟨a3, c3, rfl, ht, hb⟩
        have h1 := hon.out _ _ hW hb
        obtain ⟨h2, h3⟩ := hst.out W' h1
        exact ⟨a3, c3, rfl, (ht2.out.below hb.out (Nat.le_refl _)), ht, h1, h2, h3⟩
      have r11 : Hid (∀ W a2 c2 a3 c3, Hid (TmLies W a2 P.terms) → Hid (TmLies W a3 P.terms) → Hid (Below w5.heap.size w5 W) → Calls Try.prog 11 #[linV (.slice a2 pn c2) pk, linV (.slice a3 pn c3) pk] W fun e W' => e = .returned (.bool true) ∧ Hid (Below w5.heap.size w5 W') ∧ W'.cell? ⟨w.heap.size, 0, none⟩ = some (.slice xa xn xc) ∧ W'.cell? ⟨w.heap.size, 1, none⟩ = some (.int .u32 xk)) := fun W a2 c2 a3 c3 h1 h2 hW => by
        refine (s11.out W a2 c2 a3 c3 h1 h2).mono ?_
        rintro e W' ⟨rfl, hb⟩
        have h1 := hon.out _ _ hW hb
        obtain ⟨h2, h3⟩ := hst.out W' h1
        exact ⟨rfl, h1, h2, h3⟩
      have r10 : Hid (∀ W, Hid (Below w5.heap.size w5 W) → Calls Try.prog 10 #[.slice la n lc] W fun e W' => ∃ a c, e = .returned (.slice a sn c) ∧ Hid (StIn W' a ss) ∧ Hid (Below w5.heap.size w5 W') ∧ W'.cell? ⟨w.heap.size, 0, none⟩ = some (.slice xa xn xc) ∧ W'.cell? ⟨w.heap.size, 1, none⟩ = some (.int .u32 xk)) := fun W hW => by
        refine (s10.out W (hup.out W hW)).mono ?_
        rintro e W' ⟨a, c, rfl, ht, hb⟩
        have h1 := hon.out _ _ hW hb
        obtain ⟨h2, h3⟩ := hst.out W' h1
        exact ⟨a, c, rfl, ht, h1, h2, h3⟩
      have r20 : Hid (∀ W a, Hid (StIn W a ss) → Hid (Below w5.heap.size w5 W) → Calls Try.prog 20 #[.slice la n lc] W fun e W' => ∃ a3 c3, e = .returned (.slice a3 sn c3) ∧ Hid (StIn W' a ss) ∧ Hid (StIn W' a3 ss) ∧ Hid (Below w5.heap.size w5 W') ∧ W'.cell? ⟨w.heap.size, 0, none⟩ = some (.slice xa xn xc) ∧ W'.cell? ⟨w.heap.size, 1, none⟩ = some (.int .u32 xk)) := fun W a hs hW => by
        refine (s20.out W (hup.out W hW)).mono ?_
        rintro e W' ⟨a3, c3, rfl, ht, hb⟩
        have h1 := hon.out _ _ hW hb
        obtain ⟨h2, h3⟩ := hst.out W' h1
        exact ⟨a3, c3, rfl, hs.out.below hb.out, ht, h1, h2, h3⟩
      have r13 : Hid (∀ W a c a3 c3, Hid (StIn W a ss) → Hid (StIn W a3 ss) → Hid (Below w5.heap.size w5 W) → Calls Try.prog 13 #[.slice a sn c, .slice a3 sn c3] W fun e W' => e = .returned (.bool true) ∧ Hid (Below w5.heap.size w5 W') ∧ W'.cell? ⟨w.heap.size, 0, none⟩ = some (.slice xa xn xc) ∧ W'.cell? ⟨w.heap.size, 1, none⟩ = some (.int .u32 xk)) := fun W a c a3 c3 h1 h2 hW => by
        refine (s13.out W a c a3 c3 h1 h2).mono ?_
        rintro e W' ⟨rfl, hb⟩
        have h1 := hon.out _ _ hW hb
        obtain ⟨h2, h3⟩ := hst.out W' h1
        exact ⟨rfl, h1, h2, h3⟩
      have r14 : Hid (∀ W, Hid (Below w5.heap.size w5 W) → Calls Try.prog 14 #[] W fun e W' => e = .returned (.bool true) ∧ Hid (Below w5.heap.size w5 W') ∧ W'.cell? ⟨w.heap.size, 0, none⟩ = some (.slice xa xn xc) ∧ W'.cell? ⟨w.heap.size, 1, none⟩ = some (.int .u32 xk)) := fun W hW => by
        refine (h14.out W).mono ?_
        rintro e W' ⟨rfl, hb⟩
        have h1 := hon.out _ _ hW hb
        obtain ⟨h2, h3⟩ := hst.out W' h1
        exact ⟨rfl, h1, h2, h3⟩
      obtain ⟨d0, d1⟩ := hst.out w5.drew (Below.refl _ w5).drew
      generalize M.length = mn at *
      clear s8 s10 s20 s13 s11 s12 s19 h15 h16 h14 hb2 hb3 hb4 hb5 hB2 hB3 hB4 t17 t18 hM1 hM3 hM5 hT5 hT0H hB0H y0 y1 z0 z1 hst hup hon hpl hsl2
      go_region_held3 (fun W => W.cell? ⟨w.heap.size, 0, none⟩ = some (.slice xa xn xc) ∧ W.cell? ⟨w.heap.size, 1, none⟩ = some (.int .u32 xk)) (go_keep)
        ((first
          | (go_at_call 18; (with_reducible refine (r18.out).mono ?_); rintro e w6 ⟨rfl, hb6, u0, u1⟩)
          | (go_at_call 12; (with_reducible refine (r12.out _ hb6).mono ?_); rintro e w7 ⟨a7, c7, rfl, ht7, hb7, u2, u3⟩)
          | (go_at_call 19; (with_reducible refine (r19.out _ a7 ht7 hb7).mono ?_); rintro e w8 ⟨a8, c8, rfl, ht78, ht8, hb8, u4, u5⟩)
          | (go_at_call 11; (with_reducible refine (r11.out _ _ _ _ _ ht78 ht8 hb8).mono ?_); rintro e w9 ⟨rfl, hb9, u6, u7⟩)
          | (go_at_call 10; (with_reducible refine (r10.out _ hb9).mono ?_); rintro e w10 ⟨a10, c10, rfl, ht10, hb10, u8, u9⟩)
          | (go_at_call 20; (with_reducible refine (r20.out _ a10 ht10 hb10).mono ?_); rintro e w11 ⟨a11, c11, rfl, ht1011, ht11, hb11, u10, u11⟩)
          | (go_at_call 13; (with_reducible refine (r13.out _ _ _ _ _ ht1011 ht11 hb11).mono ?_); rintro e w12 ⟨rfl, hb12, u12, u13⟩)
          | (go_at_call 14; (with_reducible refine (r14.out _ hb12).mono ?_); rintro e w13 ⟨rfl, hb13, u14, u15⟩)))
      all_goals (go_wp2_with fail)
      all_goals first | omega | skip
      all_goals go_ret
      all_goals exact ⟨rfl, hB5.out.trans (hb13.out.mono hB5.out.size)⟩
end Go.Proofs.Ytebbbefknfldoaa
