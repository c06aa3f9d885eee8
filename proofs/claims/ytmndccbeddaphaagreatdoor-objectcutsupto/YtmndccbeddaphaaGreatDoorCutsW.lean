/- ObjectCuts' walk. -/
import Derived.Test.YtmndccbeddaphaaGreatDoorBackW
import Derived.Test.YtmndccbeddaphaaGreatDoorLrg
import Derived.Test.YtmndccbeddaphaaGreatDoorFrm
namespace Go.Proofs.YtmndccbeddaphaaGreatDoor
open Go.ChangeShapes Go.WideShapes Go.ChangeAt Go.RowKit
set_option linter.unusedVariables false
set_option linter.unusedSimpArgs false
set_option maxRecDepth 100000

theorem cut_none {u v : UVal} (hu : WOk u) (hv : WOk v) {q : Nat} (hq : q < (sUnit u).length) (h : (sUnit u).take q = sUnit v) : False := by
  have h1 := (unit_fwd hu []).2
  rw [List.append_nil, if_pos rfl] at h1
  have h2 := (unit_fwd hv ((sUnit u).drop q)).2
  have hne : (sUnit u).drop q ≠ [] := fun e => by
    have := List.drop_eq_nil_iff.1 e
    omega
  rw [← h, List.take_append_drop, if_neg hne, h1] at h2
  cases h2
theorem sUnit_inj {u v : UVal} (hu : WOk u) (hv : WOk v) : sqB u v = sqB (sUnit u) (sUnit v) := by
  by_cases h : u = v
  · rw [sqB_pos h, sqB_pos (by rw [h])]
  · have : sUnit u ≠ sUnit v := fun e => h (by
      have h1 := (unit_fwd hu []).1
      have h2 := (unit_fwd hv []).1
      rw [List.append_nil] at h1 h2
      rw [← h1, e, h2])
    rw [sqB_neg h, sqB_neg this]
theorem sUnit_pos (u : UVal) : 5 ≤ (sUnit u).length := by
  unfold sUnit
  rw [List.length_append]
  show 5 ≤ 5 + _
  omega
/-- Read of a beginning -/
theorem read_cut {u : UVal} (hu : WOk u) (hl : (sUnit u).length ≤ 1048576) (w : World) (hE : Env w) {lo : Nat} {g : Nat} {c : Nat} (hg : O.Got w lo (some ⟨g, 0, none⟩) c (sUnit u)) (q : Nat) (hq : q < (sUnit u).length) : Calls Tryz.prog 10 #[.slice (some ⟨g, 0, none⟩) q c] w fun e w' => Below w.heap.size w w' ∧ ∃ q9, e = .returned (.tuple #[.agg uZ, .iface 66 (.pointer (some ⟨q9, 0, none⟩))]) := by
  obtain ⟨l1, l2, l3⟩ := got_lies hg (sUnit_bytes hu)
  have hlen : ((sUnit u).take q).length = q := by rw [List.length_take]; omega
  have := read_two (c := c) hE (O.lies_takeO l1 q) l2 (by omega) (by omega)
  rw [hlen] at this
  refine this.mono ?_
  rintro e w' ⟨hB, ⟨q9, h⟩ | ⟨k1, k2, _⟩⟩
  · exact ⟨hB, q9, h⟩
  · exact (cut_none hu k1 hq k2).elim
/-- Read of what was written, with more behind it -/
theorem read_tail {u : UVal} (hu : WOk u) (hl : (sUnit u).length ≤ 1048576) (zt : List Int) (ht : O.AreBytes zt) (htl : zt.length ≤ 1048576) (w : World) (hE : Env w) {lo : Nat} {a : Option Addr} {c : Nat} (hg : O.Got w lo a c (sUnit u ++ zt)) : Calls Tryz.prog 10 #[.slice a (sUnit u ++ zt).length c] w fun e w' => Below w.heap.size w w' ∧ ∃ a1 n1 c1 a2 n2 c2 a3 n3 c3 a4 n4 c4 er, e = .returned (.tuple #[.agg #[.slice a1 n1 c1, .slice a2 n2 c2, .slice a3 n3 c3, .slice a4 n4 c4], er]) ∧ ((zt = [] ∧ er = .nilIface) ∨ (zt ≠ [] ∧ ∃ q9, er = .iface 66 (.pointer (some ⟨q9, 0, none⟩)))) := by
  have hby : O.AreBytes (sUnit u ++ zt) := fun z hz => by
    rcases List.mem_append.1 hz with hz | hz
    · exact sUnit_bytes hu z hz
    · exact ht z hz
  obtain ⟨l1, l2, l3⟩ := got_lies hg hby
  have hf := (unit_fwd hu zt).2
  by_cases hbig : (sUnit u ++ zt).length ≤ 1048576
  · refine (read_is l1 l2 hbig l3 hE.tab).mono ?_
    rintro e w' ⟨hB, ⟨f, q, h1, h2, h3⟩ | ⟨h1, vt, vd, ve, vg, LT, LD, LE, LG, h2, h3, m1, m2, m3, m4⟩⟩
    · refine ⟨hB, none, 0, 0, none, 0, 0, none, 0, 0, none, 0, 0, _, h2, .inr ⟨fun e => ?_, q, rfl⟩⟩
      rw [if_pos e, h1] at hf
      cases hf
    · obtain ⟨s1, r1, rfl⟩ := own_slice h3.t.row
      obtain ⟨s2, r2, rfl⟩ := own_slice h3.d.row
      obtain ⟨s3, r3, rfl⟩ := own_slice h3.e.row
      obtain ⟨s4, r4, rfl⟩ := own_slice h3.g
      refine ⟨hB, _, _, _, _, _, _, _, _, _, _, _, _, _, h2, .inl ⟨?_, rfl⟩⟩
      by_cases e : zt = []
      · exact e
      · rw [if_neg e, h1] at hf
        cases hf
  · refine (read_long w a (sUnit u ++ zt).length c (by omega) (by rw [List.length_append]; unfold maxLen; omega)).mono ?_
    rintro e w' ⟨q, h1, h2, h3⟩
    refine ⟨h3, none, 0, 0, none, 0, 0, none, 0, 0, none, 0, 0, _, h1, .inr ⟨fun e => ?_, q, rfl⟩⟩
    rw [e, List.append_nil] at hbig
    exact hbig hl
theorem lies_src {w : World} {a : Option Addr} {c : Nat} {zs : List Int} (h : O.Lies w a zs) (hno : a = none → zs.length = 0 ∧ c = 0) : Src w (.slice a zs.length c) zs.length (O.cellsOf zs) := by
  cases a with
  | none =>
    obtain ⟨h0, h1⟩ := hno rfl
    have : zs = [] := List.length_eq_zero_iff.1 h0
    subst this h1
    exact .inl ⟨rfl, rfl, rfl⟩
  | some x =>
    refine .inr ⟨x, c, rfl, fun j y hj => ?_⟩
    rcases h.2 with rfl | ⟨g, o, hx, hc⟩
    · simp [O.cellsOf] at hj
    · cases hx
      have hlt : j < zs.length := by
        have := (List.getElem?_eq_some_iff.1 hj).1
        rwa [O.cellsOf_length] at this
      rw [O.cellsOf_get zs j hlt] at hj
      cases hj
      rw [add_none]
      exact hc j hlt
theorem eql_if (a : Addr) (w : World) : (binOp .eql 32 (.iface 66 (.pointer (some a))) .nilIface).run Tryz.prog w = .ok (.bool false) w := by kernel_rfl
theorem eql_nil (w : World) : (binOp .eql 32 .nilIface .nilIface).run Tryz.prog w = .ok (.bool true) w := by kernel_rfl

/-- while ObjectCuts runs: both units lie -/
structure TwoU (w : World) (A B : Array Value) (w1 : World) : Prop where
  bel : Below w.heap.size w w1
  a : w1.heap[w.heap.size]? = some (.cells A 30 (0, 0))
  b : w1.heap[w.heap.size + 1]? = some (.cells B 30 (0, 0))
theorem TwoU.below {w w1 w2 : World} {A B : Array Value} (h : TwoU w A B w1) (hb : Below w1.heap.size w1 w2) : TwoU w A B w2 := ⟨bchn h.bel hb, keepB2 h.a hb, keepB2 h.b hb⟩
theorem TwoU.start (w : World) (A B : Array Value) : TwoU w A B ((w.alloc (.cells A 30)).alloc (.cells B 30)) := by
  have b1 := below_alloc w (.cells A 30)
  have b2 := below_alloc (w.alloc (.cells A 30)) (.cells B 30)
  have e2 := heap_alloc_new (w.alloc (.cells A 30)) (.cells B 30)
  rw [World.size_alloc] at e2
  exact ⟨bchn b1 b2, keepB2 (heap_alloc_new w (.cells A 30)) b2, e2⟩

set_option maxHeartbeats 16000000 in
theorem cutsW (ta : Option Addr) (tc : Nat) (da : Option Addr) (dc : Nat) (ea : Option Addr) (ec : Nat) (ga : Option Addr) (gc : Nat) (u : UVal) (hu : HeldU u) (hN : NumU u) (tb : Option Addr) (tk : Nat) (db : Option Addr) (dk : Nat) (eb : Option Addr) (ek : Nat) (gb : Option Addr) (gk : Nat) (v : UVal) (hv : HeldU v) (hM : NumU v) (cut : Int) (hcut : -9223372036854775808 ≤ cut ∧ cut ≤ 9223372036854775807) (at' : Option Addr) (ct : Nat) (zt : List Int) (w : World) (hE : Env w) (hI : UnitIn w ta da ea ga u) (hJ : UnitIn w tb db eb gb v) (hl : O.Lies w at' zt) (hno : at' = none → zt.length = 0 ∧ ct = 0) (hbig : zt.length ≤ 1048576) : Calls Tryz.prog 7 #[.agg (unitV ta tc da dc ea ec ga gc u), .agg (unitV tb tk db dk eb ek gb gk v), .int .i64 cut, .slice at' zt.length ct] w fun e w' => e = .returned (.bool true) ∧ Below w.heap.size w w' := by
  obtain ⟨i0, hi, hz0, hz1, hz2⟩ := info_parts O.Tryz.info5
  obtain ⟨nt, hnt⟩ : ∃ nt, nt = zt.length := ⟨_, rfl⟩
  have hzt : Hid (zt = [] ↔ nt = 0) := by rw [hnt]; exact List.length_eq_zero_iff.symm
  rw [← hnt] at hbig ⊢
  replace hnt := Hid.intro hnt
  have n_if := neq_if
  have n_nil := neq_nil
  have l_if := eql_if
  have l_nil := eql_nil
  have hT0 := Hid.intro (TwoU.start w (unitV ta tc da dc ea ec ga gc u) (unitV tb tk db dk eb ek gb gk v))
  replace hE := Hid.intro hE
  replace hI := Hid.intro hI
  replace hJ := Hid.intro hJ
  replace hl := Hid.intro hl
  replace hno := Hid.intro hno
  replace hu := Hid.intro hu
  replace hv := Hid.intro hv
  replace hN := Hid.intro hN
  replace hM := Hid.intro hM
  obtain ⟨x0, x1, x2, x3⟩ := four_read hT0.out.a
  obtain ⟨y0, y1, y2, y3⟩ := four_read hT0.out.b
  have h13 : Hid (Calls Tryz.prog 13 #[.slice (some ⟨w.heap.size + 1 + 1, 0, none⟩) 2 2] (((w.alloc (.cells (unitV ta tc da dc ea ec ga gc u) 30)).alloc (.cells (unitV tb tk db dk eb ek gb gk v) 30)).alloc (.cells #[.slice ta u.text.length tc, .slice da u.data.length dc, .slice ea u.equs.length ec, .slice ga u.globs.length gc, .slice tb v.text.length tk, .slice db v.data.length dk, .slice eb v.equs.length ek, .slice gb v.globs.length gk] 30)) fun r w' => BoolOut r ∧ TwoU w (unitV ta tc da dc ea ec ga gc u) (unitV tb tk db dk eb ek gb gk v) w') := by
    have e3 := heap_alloc_new ((w.alloc (.cells (unitV ta tc da dc ea ec ga gc u) 30)).alloc (.cells (unitV tb tk db dk eb ek gb gk v) 30)) (.cells #[.slice ta u.text.length tc, .slice da u.data.length dc, .slice ea u.equs.length ec, .slice ga u.globs.length gc, .slice tb v.text.length tk, .slice db v.data.length dk, .slice eb v.equs.length ek, .slice gb v.globs.length gk] 30)
    rw [World.size_alloc, World.size_alloc] at e3
    have hU : UsAt (((w.alloc (.cells (unitV ta tc da dc ea ec ga gc u) 30)).alloc (.cells (unitV tb tk db dk eb ek gb gk v) 30)).alloc (.cells #[.slice ta u.text.length tc, .slice da u.data.length dc, .slice ea u.equs.length ec, .slice ga u.globs.length gc, .slice tb v.text.length tk, .slice db v.data.length dk, .slice eb v.equs.length ek, .slice gb v.globs.length gk] 30)) (w.heap.size + 1 + 1) 2 := by
      refine ⟨blk_lt e3, fun i hi => ?_⟩
      have : i = 0 ∨ i = 1 := by omega
      rcases this with rfl | rfl
      · exact ⟨_, _, _, _, _, _, _, _, _, (cell_blockT e3 0).trans rfl, (cell_blockT e3 1).trans rfl, (cell_blockT e3 2).trans rfl, hu.out.text.1, hu.out.data.1, hu.out.equs.1⟩
      · exact ⟨_, _, _, _, _, _, _, _, _, (cell_blockT e3 4).trans rfl, (cell_blockT e3 5).trans rfl, (cell_blockT e3 6).trans rfl, hv.out.text.1, hv.out.data.1, hv.out.equs.1⟩
    refine (large_is (w.heap.size + 1 + 1) 2 (by decide) _ hU).mono ?_
    rintro e w3 ⟨h1, h2⟩
    exact ⟨h1, (hT0.out.below (below_alloc _ _)).below h2⟩
  have h12 : Hid (∀ w1, TwoU w (unitV ta tc da dc ea ec ga gc u) (unitV tb tk db dk eb ek gb gk v) w1 → Calls Tryz.prog 12 #[] w1 fun e w' => e = .returned (.bool true) ∧ Below w.heap.size w w') := fun w1 h1 => (known_is w1 (hE.out.below h1.bel)).mono (fun e w2 h => ⟨h.1, bchn h1.bel h.2⟩)
  have h9u : Hid (∀ w1, TwoU w (unitV ta tc da dc ea ec ga gc u) (unitV tb tk db dk eb ek gb gk v) w1 → Calls Tryz.prog 9 #[.agg (unitV ta tc da dc ea ec ga gc u)] w1 fun e w' => Below w1.heap.size w1 w' ∧ ((∃ n, n ≠ 0 ∧ (n == 0) = false ∧ WrN u n ∧ e = .returned (.tuple #[.slice none 0 0, .int .i64 n])) ∨ (WOk u ∧ (sUnit u).length ≤ 1048576 ∧ ∃ a c, e = .returned (.tuple #[.slice a (sUnit u).length c, .int .i64 0]) ∧ O.Got w' w1.heap.size a c (sUnit u)))) := fun w1 h1 => write_two ta tc da dc ea ec ga gc u hu.out hN.out w1 (hE.out.below h1.bel) (hI.out.below h1.bel)
  have h9v : Hid (∀ w1, TwoU w (unitV ta tc da dc ea ec ga gc u) (unitV tb tk db dk eb ek gb gk v) w1 → Calls Tryz.prog 9 #[.agg (unitV tb tk db dk eb ek gb gk v)] w1 fun e w' => Below w1.heap.size w1 w' ∧ ((∃ n, n ≠ 0 ∧ (n == 0) = false ∧ WrN v n ∧ e = .returned (.tuple #[.slice none 0 0, .int .i64 n])) ∨ (WOk v ∧ (sUnit v).length ≤ 1048576 ∧ ∃ a c, e = .returned (.tuple #[.slice a (sUnit v).length c, .int .i64 0]) ∧ O.Got w' w1.heap.size a c (sUnit v)))) := fun w1 h1 => write_two tb tk db dk eb ek gb gk v hv.out hM.out w1 (hE.out.below h1.bel) (hJ.out.below h1.bel)
  have h18 : Hid (∀ w1, TwoU w (unitV ta tc da dc ea ec ga gc u) (unitV tb tk db dk eb ek gb gk v) w1 → Calls Tryz.prog 18 #[.agg (unitV ta tc da dc ea ec ga gc u), .agg (unitV tb tk db dk eb ek gb gk v)] w1 fun e w' => e = .returned (.bool (sqB u v)) ∧ Below w1.heap.size w1 w') := fun w1 h1 => sameUnit_is ta da ea ga tb db eb gb tc dc ec gc tk dk ek gk u v hu.out hv.out w1 (hI.out.below h1.bel) (hJ.out.below h1.bel)
  go_enter Tryz.func7, Tryz.ntmps7
  go_upto_region 3 with (first
    | (go_at_call 13; (with_reducible refine (h13.out).mono ?_); rintro e w3 ⟨⟨bv, rfl⟩, t3⟩; replace t3 := Hid.intro t3; cases bv <;> clear h13)
    | (go_at_call 12; (with_reducible refine (h12.out _ t3.out).mono ?_); rintro e w4 ⟨rfl, b4⟩; replace b4 := Hid.intro b4))
  all_goals first | omega | skip
  rotate_left
  · go_ret
    exact ⟨rfl, b4.out⟩
  · clear x0 x1 x2 x3 y0 y1 y2 y3 hT0
    obtain ⟨x0, x1, x2, x3⟩ := four_read t3.out.a
    go_upto_region 4 with (go_at_call 9; (with_reducible refine (h9u.out _ t3.out).mono ?_); rintro e w4 ⟨b4, h4⟩; have t4 := Hid.intro (t3.out.below b4); clear b4; rcases h4 with ⟨n, hn0, hn1, hn2, rfl⟩ | ⟨k1, k2, xa, xc, rfl, xg⟩ <;> first | (replace xg := Hid.intro xg; replace k1 := Hid.intro k1) | (replace hn2 := Hid.intro hn2))
    all_goals first | omega | skip
    · clear x0 x1 x2 x3
      obtain ⟨y0, y1, y2, y3⟩ := four_read t4.out.b
      go_wp2_with (first
        | (go_at_call 9; (with_reducible refine (h9v.out _ t4.out).mono ?_); rintro e w5 ⟨b5, h5⟩; have t5 := Hid.intro (t4.out.below b5); clear b5; rcases h5 with ⟨n5, hn50, hn51, hn52, rfl⟩ | ⟨k15, k25, ya, yc, rfl, yg⟩ <;> first | (replace yg := Hid.intro yg; replace k15 := Hid.intro k15) | (replace hn52 := Hid.intro hn52))
        | (go_at_call 12; (with_reducible refine (h12.out _ t5.out).mono ?_); rintro e w6 ⟨rfl, b6⟩; replace b6 := Hid.intro b6))
      all_goals first | omega | skip
      all_goals go_ret
      all_goals exact ⟨rfl, b6.out⟩
    · clear x0 x1 x2 x3
      obtain ⟨y0, y1, y2, y3⟩ := four_read t4.out.b
      obtain ⟨nx, hnx⟩ : ∃ nx, nx = (sUnit u).length := ⟨_, rfl⟩
      have hpos : 5 ≤ nx := by rw [hnx]; exact sUnit_pos u
      obtain ⟨xb, rfl⟩ : ∃ xb, xa = some ⟨xb, 0, none⟩ := by
        rcases xg.out.2 with ⟨_, h0⟩ | ⟨g, cap, cur, h, _⟩
        · omega
        · cases h; exact ⟨g, rfl⟩
      have hxc : nx ≤ xc := by rw [hnx]; exact O.Got.cap xg.out
      rw [← hnx] at k2 ⊢
      have hGx : Hid (∀ w5, Below w4.heap.size w4 w5 → O.Got w5 w3.heap.size (some ⟨xb, 0, none⟩) xc (sUnit u)) := fun w5 h5 => own_keptB xg.out h5
      have hrc : Hid (∀ w5 q, Below w4.heap.size w4 w5 → q < nx → Calls Tryz.prog 10 #[.slice (some ⟨xb, 0, none⟩) q xc] w5 fun e w' => Below w5.heap.size w5 w' ∧ ∃ q9, e = .returned (.tuple #[.agg uZ, .iface 66 (.pointer (some ⟨q9, 0, none⟩))])) := fun w5 q h5 hq => read_cut k1.out (by rw [← hnx]; exact k2) w5 (hE.out.below (bchn t4.out.bel h5)) (hGx.out w5 h5) q (by rw [← hnx]; exact hq)
      have hrt : Hid (∀ w5 lo a c, Below w4.heap.size w4 w5 → w5.ownsRow lo 5 1 (.slice a (nx + nt) c) (nx + nt) (O.cellsOf (sUnit u) ++ O.cellsOf zt) → Calls Tryz.prog 10 #[.slice a (nx + nt) c] w5 fun e w' => Below w5.heap.size w5 w' ∧ ∃ a1 n1 c1 a2 n2 c2 a3 n3 c3 a4 n4 c4 er, e = .returned (.tuple #[.agg #[.slice a1 n1 c1, .slice a2 n2 c2, .slice a3 n3 c3, .slice a4 n4 c4], er]) ∧ ((zt = [] ∧ er = .nilIface) ∨ (zt ≠ [] ∧ ∃ q9, er = .iface 66 (.pointer (some ⟨q9, 0, none⟩))))) := fun w5 lo a c h5 ho => by
        have hlen : nx + nt = (sUnit u ++ zt).length := by rw [List.length_append, ← hnx, ← hnt.out]
        rw [hlen] at ho ⊢
        have hg : O.Got w5 lo a c (sUnit u ++ zt) := by
          have e : O.cellsOf (sUnit u ++ zt) = O.cellsOf (sUnit u) ++ O.cellsOf zt := by simp [O.cellsOf]
          unfold O.Got O.Own
          rw [e]
          exact ho
        exact read_tail k1.out (by rw [← hnx]; exact k2) zt hl.out.1 (by rw [← hnt.out]; exact hbig) w5 (hE.out.below (bchn t4.out.bel h5)) hg
      have hsx : Hid (∀ w5, Below w4.heap.size w4 w5 → Src w5 (.slice (some ⟨xb, 0, none⟩) nx xc) nx (O.cellsOf (sUnit u))) := fun w5 h5 => by rw [hnx]; exact got_src (hGx.out w5 h5)
      have hst : Hid (∀ w5, Below w4.heap.size w4 w5 → Src w5 (.slice at' nt ct) nt (O.cellsOf zt)) := fun w5 h5 => by
        have := lies_src (c := ct) (O.Lies.below hl.out (bchn t4.out.bel h5)) hno.out
        rw [← hnt.out] at this
        exact this
      have hsame : Hid (∀ w5 lo a c, Below w4.heap.size w4 w5 → WOk v → (sUnit v).length ≤ 1048576 → O.Got w5 lo a c (sUnit v) → Calls Tryz.prog 15 #[.slice (some ⟨xb, 0, none⟩) nx xc, .slice a (sUnit v).length c] w5 fun e w' => e = .returned (.bool (sqB u v)) ∧ Below w5.heap.size w5 w') := fun w5 lo a c h5 hv5 hl5 hg5 => by
        rw [sUnit_inj k1.out hv5, hnx]
        exact sameBytes_is (sUnit u) (sUnit v) (by omega) (by omega) (some ⟨xb, 0, none⟩) a xc c w5 (got_lies (hGx.out w5 h5) (sUnit_bytes k1.out)).1 (got_lies hg5 (sUnit_bytes hv5)).1
      have hcx : (O.cellsOf (sUnit u)).length = nx * 1 := by rw [O.cellsOf_length, ← hnx]; omega
      have hct : (O.cellsOf zt).length = nt * 1 := by rw [O.cellsOf_length, ← hnt.out]; omega
      have hox := O.cellsOf_one (sUnit u)
      have hot := O.cellsOf_one zt
      clear hnx xg
      generalize O.cellsOf (sUnit u) = XC at *
      generalize O.cellsOf zt = TC at *
      have q0 : ((nx : Int) == 0) = false := int_ne (by omega)
      have q1 : ¬ (nx = 0) := by omega
      have h20 : Hid (∀ w5, Calls Tryz.prog 20 #[.int .i64 cut, .int .i64 0, .int .i64 ((nx : Int) - 1)] w5 fun e w' => ∃ q : Nat, q ≤ nx - 1 ∧ e = .returned (.int .i64 (q : Int)) ∧ w' = w5) := fun w5 => by
        have := within_is cut hcut (nx - 1) (by omega) w5
        rwa [show ((nx - 1 : Nat) : Int) = (nx : Int) - 1 by omega] at this
      go_upto_region 7 with (go_at_call 9; (with_reducible refine (h9v.out _ t4.out).mono ?_); rintro e w5 ⟨b5, h5⟩; have t5 := Hid.intro (t4.out.below b5); replace b5 := Hid.intro b5; rcases h5 with ⟨n5, hn50, hn51, hn52, rfl⟩ | ⟨k15, k25, ya, yc, rfl, yg⟩ <;> first | (replace yg := Hid.intro yg; replace k15 := Hid.intro k15) | (replace hn52 := Hid.intro hn52))
      all_goals first | omega | skip
      · have n51 : ¬ (n5 = 0) := hn50
        go_upto_region 9 with fail
        all_goals first | omega | skip
        have bW := b5
        have tW := t5
        generalize w5 = W at *
        go_upto_region 10 with (first
          | (go_at_call 20; (with_reducible refine (h20.out _).mono ?_); rintro e w8 ⟨q, hq, rfl, rfl⟩; have hq1 : q ≤ xc := (by omega); have hq2 : (q : Int) ≤ (xc : Int) := (by omega); have hq3 := Hid.intro (hrc.out _ q bW.out (by omega)); clear h20 hrc)
          | (go_at_call 10; (with_reducible refine (hq3.out).mono ?_); rintro e w9 ⟨b9, q9, rfl⟩; replace b9 := Hid.intro (bchn bW.out b9); clear hq3))
        all_goals first | omega | skip
        have b10 := Hid.intro (bchn b9.out (below_alloc w9 (.cells uZ 30)))
        generalize w9.alloc (.cells uZ 30) = v2 at *
        have o1 := Hid.intro (own_void v2 5 1)
        have s2 := Hid.intro (hsx.out (v2.alloc (.cells #[] 5)) (bchn b10.out (below_alloc v2 (.cells #[] 5))))
        have hbz : v2.heap.size ≤ (v2.alloc (.cells #[] 5)).heap.size := by simp
        go_upto_region 11 with (first
          | (at_builtin; (refine wpList_app rfl (.tmp 63) (.tmp 64) 22 rfl v2.heap.size 5 i0 _ 1 1 Tryz.underlying22 hi hz0 hz1 hz2 rfl (by decide) (.slice (some ⟨v2.heap.size, 0, none⟩) 0 0) 0 [] rfl o1.out (.slice (some ⟨xb, 0, none⟩) nx xc) nx XC rfl s2.out hcx hox (by unfold maxLen; omega) (by omega) hbz ?_); intro v' x3 ho3 hg3 hw3; replace ho3 : x3.ownsRow v2.heap.size 5 1 v' nx XC := (by simpa using ho3); obtain ⟨g3, c3, rfl⟩ := Joins.ownsRow_form ho3 (by omega); have b3a := Hid.intro (Below.grown (below_alloc v2 (.cells #[] 5)) hg3 (by simp) (fun k hk => (o1.out.lt k hk).1)); have s4 := Hid.intro (hst.out x3 (bchn b10.out b3a.out)); replace ho3 := Hid.intro ho3; have hb4 : v2.heap.size ≤ x3.heap.size := b3a.out.size; clear hg3 hw3 o1 s2)
          | (at_builtin; (refine wpList_app rfl (.tmp 65) (.tmp 66) 22 rfl v2.heap.size 5 i0 _ 1 1 Tryz.underlying22 hi hz0 hz1 hz2 rfl (by decide) (.slice (some ⟨g3, 0, none⟩) nx c3) nx XC rfl ho3.out (.slice at' nt ct) nt TC rfl s4.out hct hot (by unfold maxLen; omega) (by omega) hb4 ?_); intro v' x4 ho5 hg5 hw5; obtain ⟨g4, c4, rfl⟩ := Joins.ownsRow_form ho5 (by omega); have b3b := Hid.intro (Below.grown b3a.out hg5 hb4 (fun k hk => (ho3.out.lt k hk).1)); have h14 := Hid.intro (hrt.out x4 v2.heap.size (some ⟨g4, 0, none⟩) c4 (bchn b10.out b3b.out) ho5); clear ho5 hg5 hw5 ho3 s4 b3a)
          | (go_at_call 10; (with_reducible refine (h14.out).mono ?_); rintro e x5 ⟨b0, a1, n1, c1, a2, n2, c2, a3, n3, c3, a4, n4, c4, er, rfl, her⟩; replace b0 := Hid.intro (bchn b10.out (bchn b3b.out b0)); rcases her with ⟨ht0, rfl⟩ | ⟨ht0, qf, rfl⟩ <;> (replace ht0 := Hid.intro ht0; clear h14)))
        all_goals first | omega | skip
        · have hz : nt = 0 := hzt.out.1 ht0.out
          have q5 : ((nt : Int) == 0) = true := by rw [hz]; rfl
          have t11 := Hid.intro (t4.out.below (bchn b0.out (below_alloc x5 (.cells #[.slice a1 n1 c1, .slice a2 n2 c2, .slice a3 n3 c3, .slice a4 n4 c4] 30))))
          generalize x5.alloc (.cells #[.slice a1 n1 c1, .slice a2 n2 c2, .slice a3 n3 c3, .slice a4 n4 c4] 30) = v5 at *
          clear hz
          go_wp2_with (go_at_call 12; (with_reducible refine (h12.out _ t11.out).mono ?_); rintro e w12 ⟨rfl, b12⟩; replace b12 := Hid.intro b12)
          all_goals first | omega | skip
          go_ret
          exact ⟨rfl, b12.out⟩
        · have q5 : ((nt : Int) == 0) = false := int_ne (fun e => ht0.out (hzt.out.2 (by omega)))
          have q6 : ¬ (nt = 0) := fun e => ht0.out (hzt.out.2 e)
          have t11 := Hid.intro (t4.out.below (bchn b0.out (below_alloc x5 (.cells #[.slice a1 n1 c1, .slice a2 n2 c2, .slice a3 n3 c3, .slice a4 n4 c4] 30))))
          generalize x5.alloc (.cells #[.slice a1 n1 c1, .slice a2 n2 c2, .slice a3 n3 c3, .slice a4 n4 c4] 30) = v5 at *
          go_wp2_with (go_at_call 12; (with_reducible refine (h12.out _ t11.out).mono ?_); rintro e w12 ⟨rfl, b12⟩; replace b12 := Hid.intro b12)
          all_goals first | omega | skip
          go_ret
          exact ⟨rfl, b12.out⟩
      · have h15 := Hid.intro (fun w6 (h6 : Below w5.heap.size w5 w6) => hsame.out w6 w4.heap.size ya yc (bchn b5.out h6) k15.out k25 (own_keptB yg.out h6))
        clear hsame yg
        clear y0 y1 y2 y3
        obtain ⟨y0, y1, y2, y3⟩ := four_read t5.out.b
        obtain ⟨x0, x1, x2, x3⟩ := four_read t5.out.a
        generalize (sUnit v).length = ny at *
        have h18' := Hid.intro (h18.out _ t5.out)
        have hB : sqB u v = true ∨ sqB u v = false := by cases sqB u v <;> simp
        rcases hB with hB | hB <;> rw [hB] at h18' h15
        · go_upto_region 9 with (first
            | (go_at_call 18; (with_reducible refine (h18'.out).mono ?_); rintro e w6 ⟨rfl, b6⟩; have t6 := Hid.intro (t5.out.below b6); replace b6 := Hid.intro b6; clear h18')
            | (go_at_call 15; (with_reducible refine (h15.out _ b6.out).mono ?_); rintro e W ⟨rfl, b7⟩; have tW := Hid.intro (t6.out.below b7); have bW := Hid.intro (bchn b5.out (bchn b6.out b7)); clear h15 b7))
          all_goals first | omega | skip
          go_upto_region 10 with (first
            | (go_at_call 20; (with_reducible refine (h20.out _).mono ?_); rintro e w8 ⟨q, hq, rfl, rfl⟩; have hq1 : q ≤ xc := (by omega); have hq2 : (q : Int) ≤ (xc : Int) := (by omega); have hq3 := Hid.intro (hrc.out _ q bW.out (by omega)); clear h20 hrc)
            | (go_at_call 10; (with_reducible refine (hq3.out).mono ?_); rintro e w9 ⟨b9, q9, rfl⟩; replace b9 := Hid.intro (bchn bW.out b9); clear hq3))
          all_goals first | omega | skip
          have b10 := Hid.intro (bchn b9.out (below_alloc w9 (.cells uZ 30)))
          generalize w9.alloc (.cells uZ 30) = v2 at *
          have o1 := Hid.intro (own_void v2 5 1)
          have s2 := Hid.intro (hsx.out (v2.alloc (.cells #[] 5)) (bchn b10.out (below_alloc v2 (.cells #[] 5))))
          have hbz : v2.heap.size ≤ (v2.alloc (.cells #[] 5)).heap.size := by simp
          go_upto_region 11 with (first
            | (at_builtin; (refine wpList_app rfl (.tmp 63) (.tmp 64) 22 rfl v2.heap.size 5 i0 _ 1 1 Tryz.underlying22 hi hz0 hz1 hz2 rfl (by decide) (.slice (some ⟨v2.heap.size, 0, none⟩) 0 0) 0 [] rfl o1.out (.slice (some ⟨xb, 0, none⟩) nx xc) nx XC rfl s2.out hcx hox (by unfold maxLen; omega) (by omega) hbz ?_); intro v' x3 ho3 hg3 hw3; replace ho3 : x3.ownsRow v2.heap.size 5 1 v' nx XC := (by simpa using ho3); obtain ⟨g3, c3, rfl⟩ := Joins.ownsRow_form ho3 (by omega); have b3a := Hid.intro (Below.grown (below_alloc v2 (.cells #[] 5)) hg3 (by simp) (fun k hk => (o1.out.lt k hk).1)); have s4 := Hid.intro (hst.out x3 (bchn b10.out b3a.out)); replace ho3 := Hid.intro ho3; have hb4 : v2.heap.size ≤ x3.heap.size := b3a.out.size; clear hg3 hw3 o1 s2)
            | (at_builtin; (refine wpList_app rfl (.tmp 65) (.tmp 66) 22 rfl v2.heap.size 5 i0 _ 1 1 Tryz.underlying22 hi hz0 hz1 hz2 rfl (by decide) (.slice (some ⟨g3, 0, none⟩) nx c3) nx XC rfl ho3.out (.slice at' nt ct) nt TC rfl s4.out hct hot (by unfold maxLen; omega) (by omega) hb4 ?_); intro v' x4 ho5 hg5 hw5; obtain ⟨g4, c4, rfl⟩ := Joins.ownsRow_form ho5 (by omega); have b3b := Hid.intro (Below.grown b3a.out hg5 hb4 (fun k hk => (ho3.out.lt k hk).1)); have h14 := Hid.intro (hrt.out x4 v2.heap.size (some ⟨g4, 0, none⟩) c4 (bchn b10.out b3b.out) ho5); clear ho5 hg5 hw5 ho3 s4 b3a)
            | (go_at_call 10; (with_reducible refine (h14.out).mono ?_); rintro e x5 ⟨b0, a1, n1, c1, a2, n2, c2, a3, n3, c3, a4, n4, c4, er, rfl, her⟩; replace b0 := Hid.intro (bchn b10.out (bchn b3b.out b0)); rcases her with ⟨ht0, rfl⟩ | ⟨ht0, qf, rfl⟩ <;> (replace ht0 := Hid.intro ht0; clear h14)))
          all_goals first | omega | skip
          · have hz : nt = 0 := hzt.out.1 ht0.out
            have q5 : ((nt : Int) == 0) = true := by rw [hz]; rfl
            have t11 := Hid.intro (t4.out.below (bchn b0.out (below_alloc x5 (.cells #[.slice a1 n1 c1, .slice a2 n2 c2, .slice a3 n3 c3, .slice a4 n4 c4] 30))))
            generalize x5.alloc (.cells #[.slice a1 n1 c1, .slice a2 n2 c2, .slice a3 n3 c3, .slice a4 n4 c4] 30) = v5 at *
            clear hz
            go_wp2_with (go_at_call 12; (with_reducible refine (h12.out _ t11.out).mono ?_); rintro e w12 ⟨rfl, b12⟩; replace b12 := Hid.intro b12)
            all_goals first | omega | skip
            go_ret
            exact ⟨rfl, b12.out⟩
          · have q5 : ((nt : Int) == 0) = false := int_ne (fun e => ht0.out (hzt.out.2 (by omega)))
            have q6 : ¬ (nt = 0) := fun e => ht0.out (hzt.out.2 e)
            have t11 := Hid.intro (t4.out.below (bchn b0.out (below_alloc x5 (.cells #[.slice a1 n1 c1, .slice a2 n2 c2, .slice a3 n3 c3, .slice a4 n4 c4] 30))))
            generalize x5.alloc (.cells #[.slice a1 n1 c1, .slice a2 n2 c2, .slice a3 n3 c3, .slice a4 n4 c4] 30) = v5 at *
            go_wp2_with (go_at_call 12; (with_reducible refine (h12.out _ t11.out).mono ?_); rintro e w12 ⟨rfl, b12⟩; replace b12 := Hid.intro b12)
            all_goals first | omega | skip
            go_ret
            exact ⟨rfl, b12.out⟩
        · go_upto_region 9 with (first
            | (go_at_call 18; (with_reducible refine (h18'.out).mono ?_); rintro e w6 ⟨rfl, b6⟩; have t6 := Hid.intro (t5.out.below b6); replace b6 := Hid.intro b6; clear h18')
            | (go_at_call 15; (with_reducible refine (h15.out _ b6.out).mono ?_); rintro e W ⟨rfl, b7⟩; have tW := Hid.intro (t6.out.below b7); have bW := Hid.intro (bchn b5.out (bchn b6.out b7)); clear h15 b7))
          all_goals first | omega | skip
          go_upto_region 10 with (first
            | (go_at_call 20; (with_reducible refine (h20.out _).mono ?_); rintro e w8 ⟨q, hq, rfl, rfl⟩; have hq1 : q ≤ xc := (by omega); have hq2 : (q : Int) ≤ (xc : Int) := (by omega); have hq3 := Hid.intro (hrc.out _ q bW.out (by omega)); clear h20 hrc)
            | (go_at_call 10; (with_reducible refine (hq3.out).mono ?_); rintro e w9 ⟨b9, q9, rfl⟩; replace b9 := Hid.intro (bchn bW.out b9); clear hq3))
          all_goals first | omega | skip
          have b10 := Hid.intro (bchn b9.out (below_alloc w9 (.cells uZ 30)))
          generalize w9.alloc (.cells uZ 30) = v2 at *
          have o1 := Hid.intro (own_void v2 5 1)
          have s2 := Hid.intro (hsx.out (v2.alloc (.cells #[] 5)) (bchn b10.out (below_alloc v2 (.cells #[] 5))))
          have hbz : v2.heap.size ≤ (v2.alloc (.cells #[] 5)).heap.size := by simp
          go_upto_region 11 with (first
            | (at_builtin; (refine wpList_app rfl (.tmp 63) (.tmp 64) 22 rfl v2.heap.size 5 i0 _ 1 1 Tryz.underlying22 hi hz0 hz1 hz2 rfl (by decide) (.slice (some ⟨v2.heap.size, 0, none⟩) 0 0) 0 [] rfl o1.out (.slice (some ⟨xb, 0, none⟩) nx xc) nx XC rfl s2.out hcx hox (by unfold maxLen; omega) (by omega) hbz ?_); intro v' x3 ho3 hg3 hw3; replace ho3 : x3.ownsRow v2.heap.size 5 1 v' nx XC := (by simpa using ho3); obtain ⟨g3, c3, rfl⟩ := Joins.ownsRow_form ho3 (by omega); have b3a := Hid.intro (Below.grown (below_alloc v2 (.cells #[] 5)) hg3 (by simp) (fun k hk => (o1.out.lt k hk).1)); have s4 := Hid.intro (hst.out x3 (bchn b10.out b3a.out)); replace ho3 := Hid.intro ho3; have hb4 : v2.heap.size ≤ x3.heap.size := b3a.out.size; clear hg3 hw3 o1 s2)
            | (at_builtin; (refine wpList_app rfl (.tmp 65) (.tmp 66) 22 rfl v2.heap.size 5 i0 _ 1 1 Tryz.underlying22 hi hz0 hz1 hz2 rfl (by decide) (.slice (some ⟨g3, 0, none⟩) nx c3) nx XC rfl ho3.out (.slice at' nt ct) nt TC rfl s4.out hct hot (by unfold maxLen; omega) (by omega) hb4 ?_); intro v' x4 ho5 hg5 hw5; obtain ⟨g4, c4, rfl⟩ := Joins.ownsRow_form ho5 (by omega); have b3b := Hid.intro (Below.grown b3a.out hg5 hb4 (fun k hk => (ho3.out.lt k hk).1)); have h14 := Hid.intro (hrt.out x4 v2.heap.size (some ⟨g4, 0, none⟩) c4 (bchn b10.out b3b.out) ho5); clear ho5 hg5 hw5 ho3 s4 b3a)
            | (go_at_call 10; (with_reducible refine (h14.out).mono ?_); rintro e x5 ⟨b0, a1, n1, c1, a2, n2, c2, a3, n3, c3, a4, n4, c4, er, rfl, her⟩; replace b0 := Hid.intro (bchn b10.out (bchn b3b.out b0)); rcases her with ⟨ht0, rfl⟩ | ⟨ht0, qf, rfl⟩ <;> (replace ht0 := Hid.intro ht0; clear h14)))
          all_goals first | omega | skip
          · have hz : nt = 0 := hzt.out.1 ht0.out
            have q5 : ((nt : Int) == 0) = true := by rw [hz]; rfl
            have t11 := Hid.intro (t4.out.below (bchn b0.out (below_alloc x5 (.cells #[.slice a1 n1 c1, .slice a2 n2 c2, .slice a3 n3 c3, .slice a4 n4 c4] 30))))
            generalize x5.alloc (.cells #[.slice a1 n1 c1, .slice a2 n2 c2, .slice a3 n3 c3, .slice a4 n4 c4] 30) = v5 at *
            clear hz
            go_wp2_with (go_at_call 12; (with_reducible refine (h12.out _ t11.out).mono ?_); rintro e w12 ⟨rfl, b12⟩; replace b12 := Hid.intro b12)
            all_goals first | omega | skip
            go_ret
            exact ⟨rfl, b12.out⟩
          · have q5 : ((nt : Int) == 0) = false := int_ne (fun e => ht0.out (hzt.out.2 (by omega)))
            have q6 : ¬ (nt = 0) := fun e => ht0.out (hzt.out.2 e)
            have t11 := Hid.intro (t4.out.below (bchn b0.out (below_alloc x5 (.cells #[.slice a1 n1 c1, .slice a2 n2 c2, .slice a3 n3 c3, .slice a4 n4 c4] 30))))
            generalize x5.alloc (.cells #[.slice a1 n1 c1, .slice a2 n2 c2, .slice a3 n3 c3, .slice a4 n4 c4] 30) = v5 at *
            go_wp2_with (go_at_call 12; (with_reducible refine (h12.out _ t11.out).mono ?_); rintro e w12 ⟨rfl, b12⟩; replace b12 := Hid.intro b12)
            all_goals first | omega | skip
            go_ret
            exact ⟨rfl, b12.out⟩
end Go.Proofs.YtmndccbeddaphaaGreatDoor
