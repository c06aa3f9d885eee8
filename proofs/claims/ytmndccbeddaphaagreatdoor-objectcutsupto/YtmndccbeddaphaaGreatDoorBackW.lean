/- ObjectBack's walk. -/
import Derived.Test.YtmndccbeddaphaaGreatDoorObn2
import Derived.Test.YtmndccbeddaphaaGreatDoorMb4
import Derived.Test.YtmndccbeddaphaaGreatDoorLrg
import Derived.Test.YtmndccbeddaphaaGreatDoorOrd5
namespace Go.Proofs.YtmndccbeddaphaaGreatDoor
open Go.ChangeShapes Go.WideShapes Go.ChangeAt Go.RowKit
set_option linter.unusedVariables false
set_option linter.unusedSimpArgs false
set_option maxRecDepth 100000

theorem neq_if (a : Addr) (w : World) : (binOp .neq 32 (.iface 66 (.pointer (some a))) .nilIface).run Tryz.prog w = .ok (.bool true) w := by kernel_rfl
theorem neq_nil (w : World) : (binOp .neq 32 .nilIface .nilIface).run Tryz.prog w = .ok (.bool false) w := by kernel_rfl
theorem keepB2 {w w' : World} {g : Nat} {x : Obj} (h : w.heap[g]? = some x) (hb : Below w.heap.size w w') : w'.heap[g]? = some x := (hb.block g (Array.getElem?_eq_some_iff.1 h).1).trans h
theorem bchn {w w1 w2 : World} (h1 : Below w.heap.size w w1) (h2 : Below w1.heap.size w1 w2) : Below w.heap.size w w2 := h1.trans (h2.mono h1.size)
theorem usAt_one (ta : Option Addr) (tc : Nat) (da : Option Addr) (dc : Nat) (ea : Option Addr) (ec : Nat) (ga : Option Addr) (gc : Nat) (u : UVal) (hu : HeldU u) (w : World) : UsAt (w.alloc (.cells (unitV ta tc da dc ea ec ga gc u) 30)) w.heap.size 1 := by
  have e1 := heap_alloc_new w (.cells (unitV ta tc da dc ea ec ga gc u) 30)
  refine ⟨blk_lt e1, fun i hi => ?_⟩
  obtain rfl : i = 0 := by omega
  obtain ⟨d0, d1, d2, d3⟩ := four_read e1
  exact ⟨_, _, _, _, _, _, _, _, _, d0, d1, d2, hu.text.1, hu.data.1, hu.equs.1⟩
theorem usAt_blk (ta : Option Addr) (tc : Nat) (da : Option Addr) (dc : Nat) (ea : Option Addr) (ec : Nat) (ga : Option Addr) (gc : Nat) (u : UVal) (hu : HeldU u) {w : World} {g : Nat} (hb : w.heap[g]? = some (.cells (unitV ta tc da dc ea ec ga gc u) 30 (0, 0))) : UsAt w g 1 := by
  refine ⟨blk_lt hb, fun i hi => ?_⟩
  obtain rfl : i = 0 := by omega
  obtain ⟨d0, d1, d2, d3⟩ := four_read hb
  exact ⟨_, _, _, _, _, _, _, _, _, d0, d1, d2, hu.text.1, hu.data.1, hu.equs.1⟩
theorem sUnit_bytes {u : UVal} (h : WOk u) : O.AreBytes (sUnit u) := by
  have hL : ∀ x : Lin, O.AreBytes (sLin x) := fun x => by
    unfold sLin sTms
    intro z hz
    rcases List.mem_append.1 hz with hz | hz
    · rcases List.mem_append.1 hz with hz | hz
      · exact O.leB_bytes _ _ z hz
      · obtain ⟨t, _, ht⟩ := List.mem_flatMap.1 hz
        unfold sTm at ht
        rcases List.mem_append.1 ht with ht | ht
        · exact O.putT_bytes [] _ (fun z hz => absurd hz (by simp)) z ht
        · exact O.leB_bytes _ _ z ht
    · exact O.leB_bytes _ _ z hz
  have hX : ∀ s, O.AreBytes (sTx s) := fun s => O.putT_bytes [] _ (fun z hz => absurd hz (by simp))
  have hI : ∀ x : Itm, O.AreBytes (sItem x) := fun x => by
    unfold sItem
    intro z hz
    rcases List.mem_append.1 hz with hz | hz
    · exact O.leB_bytes _ _ z hz
    · split at hz
      · exact hX _ z hz
      · split at hz
        · unfold sCode at hz
          simp only [List.mem_append] at hz
          rcases hz with (((hz | hz) | hz) | hz) | hz
          · exact O.leB_bytes _ _ z hz
          · exact O.leB_bytes _ _ z hz
          · exact O.leB_bytes _ _ z hz
          · exact O.leB_bytes _ _ z hz
          · split at hz
            · exact hL _ z hz
            · cases hz
        · split at hz
          · exact O.leB_bytes _ _ z hz
          · split at hz
            · exact hL _ z hz
            · split at hz
              · exact O.leB_bytes _ _ z hz
              · cases hz
  have hS : ∀ {α : Type} (f : α → List Int) (l : List α), (∀ x, O.AreBytes (f x)) → O.AreBytes (sL f l) := fun f l hf z hz => by
    unfold sL at hz
    rcases List.mem_append.1 hz with hz | hz
    · exact O.leB_bytes _ _ z hz
    · obtain ⟨t, _, ht⟩ := List.mem_flatMap.1 hz
      exact hf t z ht
  unfold sUnit
  intro z hz
  simp only [List.mem_append] at hz
  rcases hz with hz | hz | hz | hz | hz
  · unfold hdL at hz; simp at hz; omega
  · exact hS _ _ hI z hz
  · exact hS _ _ hI z hz
  · exact hS _ _ (fun q z hz => by unfold sEqu at hz; rcases List.mem_append.1 hz with hz | hz; exact hX _ z hz; exact hL _ z hz) z hz
  · exact hS _ _ hX z hz

/-- Write, in the two ways that it ends -/
theorem write_two (ta : Option Addr) (tc : Nat) (da : Option Addr) (dc : Nat) (ea : Option Addr) (ec : Nat) (ga : Option Addr) (gc : Nat) (u : UVal) (hu : HeldU u) (hN : NumU u) (w : World) (hE : Env w) (hI : UnitIn w ta da ea ga u) : Calls Tryz.prog 9 #[.agg (unitV ta tc da dc ea ec ga gc u)] w fun e w' => Below w.heap.size w w' ∧ ((∃ n, n ≠ 0 ∧ (n == 0) = false ∧ WrN u n ∧ e = .returned (.tuple #[.slice none 0 0, .int .i64 n])) ∨ (WOk u ∧ (sUnit u).length ≤ 1048576 ∧ ∃ a c, e = .returned (.tuple #[.slice a (sUnit u).length c, .int .i64 0]) ∧ O.Got w' w.heap.size a c (sUnit u))) := by
  refine (write_is ta tc da dc ea ec ga gc u hu hN w hE.tab hI).mono ?_
  rintro e w' ⟨hB, n, hn, ⟨h0, h⟩ | ⟨rfl, a, c, h1, h2⟩⟩
  · exact ⟨hB, .inl ⟨n, h0, by simpa using h0, hn, h⟩⟩
  · obtain ⟨k1, k2⟩ := wok_of hu hN hn
    exact ⟨hB, .inr ⟨k1, k2, a, c, h1, h2⟩⟩
/-- Read of what was written -/
theorem read_back {u : UVal} (hu : WOk u) (hl : (sUnit u).length ≤ 1048576) (w : World) (hE : Env w) {lo : Nat} {a : Option Addr} {c : Nat} (hg : O.Got w lo a c (sUnit u)) : Calls Tryz.prog 10 #[.slice a (sUnit u).length c] w fun e w' => Below w.heap.size w w' ∧ ∃ ta tc da dc ea ec ga gc, e = .returned (.tuple #[.agg (unitV ta tc da dc ea ec ga gc u), .nilIface]) ∧ UnitIn w' ta da ea ga u := by
  obtain ⟨l1, l2, l3⟩ := got_lies hg (sUnit_bytes hu)
  have hf := unit_fwd hu []
  rw [List.append_nil, if_pos rfl] at hf
  refine (read_ok hE l1 l2 hl l3 hf.2).mono ?_
  rintro e w' ⟨hB, ta, tc, da, dc, ea, ec, ga, gc, h1, h2⟩
  rw [hf.1] at h1 h2
  exact ⟨hB, ta, tc, da, dc, ea, ec, ga, gc, h1, h2⟩
/-- Read, in the two ways that it ends -/
theorem read_two {w : World} {a : Option Addr} {c : Nat} {zs : List Int} (hE : Env w) (hl : O.Lies w a zs) (ha : ∀ x, a = some x → x.block < w.heap.size) (hn : zs.length ≤ 1048576) (hc : zs.length ≤ c) : Calls Tryz.prog 10 #[.slice a zs.length c] w fun e w' => Below w.heap.size w w' ∧ ((∃ q, e = .returned (.tuple #[.agg uZ, .iface 66 (.pointer (some ⟨q, 0, none⟩))])) ∨ (WOk (rdU zs) ∧ zs = sUnit (rdU zs) ∧ ∃ ta tc da dc ea ec ga gc, e = .returned (.tuple #[.agg (unitV ta tc da dc ea ec ga gc (rdU zs)), .nilIface]) ∧ UnitIn w' ta da ea ga (rdU zs))) := by
  refine (read_is hl ha hn hc hE.tab).mono ?_
  rintro e w' ⟨hB, ⟨f, q, h1, h2, h3⟩ | ⟨h1, vt, vd, ve, vg, LT, LD, LE, LG, h2, h3, m1, m2, m3, m4⟩⟩
  · exact ⟨hB, .inl ⟨q, h2⟩⟩
  · obtain ⟨ta, tc, da, dc, ea, ec, ga, gc, hv, hI⟩ := h3.unitIn m1 m2 m3 m4
    obtain ⟨k1, k2⟩ := unit_bwd hl.1 h1
    exact ⟨hB, .inr ⟨k1, k2, ta, tc, da, dc, ea, ec, ga, gc, by rw [h2, hv], hI⟩⟩

set_option maxHeartbeats 16000000 in
theorem backW (ta : Option Addr) (tc : Nat) (da : Option Addr) (dc : Nat) (ea : Option Addr) (ec : Nat) (ga : Option Addr) (gc : Nat) (u : UVal) (hu : HeldU u) (hN : NumU u) (ab : Option Addr) (cb : Nat) (zb : List Int) (w : World) (hE : Env w) (hI : UnitIn w ta da ea ga u) (hl : O.Lies w ab zb) (ha : ∀ x, ab = some x → x.block < w.heap.size) (hcb : zb.length ≤ cb) (hbig : zb.length ≤ maxLen) : Calls Tryz.prog 6 #[.agg (unitV ta tc da dc ea ec ga gc u), .slice ab zb.length cb] w fun e w' => e = .returned (.bool true) ∧ Below w.heap.size w w' := by
  obtain ⟨nb, hnz⟩ : ∃ nb, nb = zb.length := ⟨_, rfl⟩
  rw [← hnz] at hbig ⊢
  unfold maxLen at hbig
  replace hnz := Hid.intro hnz
  have n_if := neq_if
  have n_nil := neq_nil
  have e1 := heap_alloc_new w (.cells (unitV ta tc da dc ea ec ga gc u) 30)
  have b1 := Hid.intro (below_alloc w (.cells (unitV ta tc da dc ea ec ga gc u) 30))
  replace hl := Hid.intro hl
  replace ha := Hid.intro ha
  replace hcb := Hid.intro hcb
  replace hE := Hid.intro hE
  have hI1 := Hid.intro (hI.below b1.out)
  have hu2 := Hid.intro hu
  have hN2 := Hid.intro hN
  clear hI hu hN
  obtain ⟨x0, x1, x2, x3⟩ := four_read e1
  have e1h := Hid.intro e1
  have h13 : Hid (∀ w1 g, w1.heap[g]? = some (.cells (unitV ta tc da dc ea ec ga gc u) 30 (0, 0)) → Calls Tryz.prog 13 #[.slice (some ⟨g, 0, none⟩) 1 1] w1 fun r w' => BoolOut r ∧ Below w1.heap.size w1 w') := fun w1 g h1 => large_is g 1 (by decide) w1 (usAt_blk ta tc da dc ea ec ga gc u hu2.out h1)
  have h13a := Hid.intro (h13.out ((w.alloc (.cells (unitV ta tc da dc ea ec ga gc u) 30)).alloc (.cells (unitV ta tc da dc ea ec ga gc u) 30)) (w.heap.size + 1) (by have := heap_alloc_new (w.alloc (.cells (unitV ta tc da dc ea ec ga gc u) 30)) (.cells (unitV ta tc da dc ea ec ga gc u) 30); rw [World.size_alloc] at this; exact this))
  clear h13
  go_enter Tryz.func6, Tryz.ntmps6
  have h12 : Hid (∀ w1, Below w.heap.size w w1 → Calls Tryz.prog 12 #[] w1 fun e w' => e = .returned (.bool true) ∧ Below w.heap.size w w') := fun w1 h1 => (known_is w1 (hE.out.below h1)).mono (fun e w2 h => ⟨h.1, bchn h1 h.2⟩)
  have b2 := Hid.intro (bchn b1.out (below_alloc (w.alloc (.cells (unitV ta tc da dc ea ec ga gc u) 30)) (.cells (unitV ta tc da dc ea ec ga gc u) 30)))
  rcases Nat.lt_or_ge 3000 nb with hnb | hnb
  · have q0 : decide ((nb : Int) > 3000) = true := by simp; omega
    have q1 : decide ((3000 : Int) < (nb : Int)) = true := by simp; omega
    go_wp2_with (first
      | (go_at_call 13; (with_reducible refine (h13a.out).mono ?_); rintro e w3 ⟨⟨bv, rfl⟩, b3⟩; replace b3 := Hid.intro (bchn b2.out b3); cases bv <;> clear h13a)
      | (go_at_call 12; (with_reducible refine (h12.out _ b3.out).mono ?_); rintro e w4 ⟨rfl, b4⟩; replace b4 := Hid.intro b4))
    all_goals first | omega | skip
    all_goals go_ret
    all_goals exact ⟨rfl, b4.out⟩
  · have q0 : decide ((nb : Int) > 3000) = false := by simp; omega
    have q1 : decide ((3000 : Int) < (nb : Int)) = false := by simp; omega
    go_upto_region 3 with (first
      | (go_at_call 13; (with_reducible refine (h13a.out).mono ?_); rintro e w3 ⟨⟨bv, rfl⟩, b3⟩; have b3' := Hid.intro (bchn b1.out (bchn (below_alloc (w.alloc (.cells (unitV ta tc da dc ea ec ga gc u) 30)) (.cells (unitV ta tc da dc ea ec ga gc u) 30)) b3)); have hu3 := Hid.intro (keepB2 e1h.out (bchn (below_alloc (w.alloc (.cells (unitV ta tc da dc ea ec ga gc u) 30)) (.cells (unitV ta tc da dc ea ec ga gc u) 30)) b3)); have hI3 := Hid.intro (hI1.out.below (bchn (below_alloc (w.alloc (.cells (unitV ta tc da dc ea ec ga gc u) 30)) (.cells (unitV ta tc da dc ea ec ga gc u) 30)) b3)); clear b3; cases bv <;> clear h13a)
      | (go_at_call 12; (with_reducible refine (h12.out _ b3'.out).mono ?_); rintro e w4 ⟨rfl, b4⟩; replace b4 := Hid.intro b4))
    all_goals first | omega | skip
    rotate_left
    · go_ret
      exact ⟨rfl, b4.out⟩
    · clear x0 x1 x2 x3 e1
      obtain ⟨x0, x1, x2, x3⟩ := four_read hu3.out
      have hE3 := Hid.intro (hE.out.below b3'.out)
      have h9 := Hid.intro (write_two ta tc da dc ea ec ga gc u hu2.out hN2.out w3 hE3.out hI3.out)
      go_upto_region 4 with (go_at_call 9; (with_reducible refine (h9.out).mono ?_); rintro e w4 ⟨b4, h4⟩; have hu4 := Hid.intro (keepB2 hu3.out b4); have hI4 := Hid.intro (hI3.out.below b4); replace b4 := Hid.intro (bchn b3'.out b4); rcases h4 with ⟨n, hn0, hn1, hn2, rfl⟩ | ⟨k1, k2, xa, xc, rfl, xg⟩ <;> clear h9)
      all_goals first | omega | skip
      · clear hn2
        go_upto_region 8 with fail
        all_goals first | omega | skip
        have b8 := b4
        have hE8 := Hid.intro (hE.out.below b8.out)
        have hL8 := O.Lies.below hl.out b8.out
        have hr8 := Hid.intro (read_two (c := cb) hE8.out hL8 (fun x hx => Nat.lt_of_lt_of_le (ha.out x hx) b8.out.size) (by have := hnz.out; omega) hcb.out)
        rw [← hnz.out] at hr8
        clear hL8
        go_upto_region 9 with (go_at_call 10; (with_reducible refine (hr8.out).mono ?_); rintro e w9 ⟨b9, hx9⟩; replace b9 := Hid.intro (bchn b8.out b9); rcases hx9 with ⟨q9, rfl⟩ | ⟨k9, k10, ra, rc, sa, sc, xa, xc, ya, yc, rfl, hI9⟩ <;> first | (replace k10 := Hid.intro k10; clear hr8) | clear hr8)
        all_goals first | omega | skip
        · have b10 := Hid.intro (bchn b9.out (below_alloc w9 (.cells uZ 30)))
          have hu9 := heap_alloc_new w9 (.cells uZ 30)
          generalize w9.alloc (.cells uZ 30) = w10 at *
          obtain ⟨y0, y1, y2, y3⟩ := four_read hu9
          have h18 := Hid.intro (same_E w10 none 0 none 0 none 0 none 0)
          have h12 : Hid (∀ w1, Below w10.heap.size w10 w1 → _) := fun w1 (h1 : Below w10.heap.size w10 w1) => known_is w1 (hE.out.below (bchn b10.out h1))
          go_wp2_with (first
            | (go_at_call 18; (with_reducible refine (h18.out).mono ?_); rintro e w11 ⟨rfl, b11⟩; replace b11 := Hid.intro b11)
            | (go_at_call 12; (with_reducible refine (h12.out _ b11.out).mono ?_); rintro e w12 ⟨rfl, b12⟩; replace b12 := Hid.intro b12))
          all_goals first | omega | skip
          go_ret
          exact ⟨rfl, bchn b10.out (bchn b11.out b12.out)⟩
        · obtain ⟨v, hv⟩ : ∃ v, v = rdU zb := ⟨_, rfl⟩
          rw [← hv] at k9 k10 hI9 ⊢
          have b10 := Hid.intro (bchn b9.out (below_alloc w9 (.cells (unitV ra rc sa sc xa xc ya yc v) 30)))
          have hu9 := heap_alloc_new w9 (.cells (unitV ra rc sa sc xa xc ya yc v) 30)
          have hI10 := Hid.intro (hI9.below (below_alloc w9 (.cells (unitV ra rc sa sc xa xc ya yc v) 30)))
          clear hI9 hv
          generalize w9.alloc (.cells (unitV ra rc sa sc xa xc ya yc v) 30) = w10 at *
          obtain ⟨y0, y1, y2, y3⟩ := four_read hu9
          have hE10 := Hid.intro (hE.out.below b10.out)
          have h9 : Hid (Calls Tryz.prog 9 #[.agg (unitV ra rc sa sc xa xc ya yc v)] w10 fun e w' => Below w10.heap.size w10 w' ∧ ∃ a c, e = .returned (.tuple #[.slice a nb c, .int .i64 0]) ∧ O.Got w' w10.heap.size a c zb) := by
            refine (write_two ra rc sa sc xa xc ya yc v k9.held k9.num w10 hE10.out hI10.out).mono ?_
            rintro e w11 ⟨hB, ⟨n, h0, _, hn, _⟩ | ⟨_, _, a, c, h1, h2⟩⟩
            · exact absurd (wrN_one hn (k9.wr (by rw [← k10.out, ← hnz.out]; omega))) h0
            · rw [← k10.out] at h1 h2
              rw [← hnz.out] at h1
              exact ⟨hB, a, c, h1, h2⟩
          have h15 : Hid (∀ w1 lo a c, Below w10.heap.size w10 w1 → O.Got w1 lo a c zb → Calls Tryz.prog 15 #[.slice a nb c, .slice ab nb cb] w1 fun e w' => e = .returned (.bool true) ∧ Below w1.heap.size w1 w') := fun w1 lo a c h1 h2 => by
            have hl1 := O.Lies.below hl.out (bchn b10.out h1)
            have := O.same_eq a ab c cb zb w1 (got_lies h2 hl.out.1).1 hl1 (by rw [← hnz.out]; unfold maxLen; omega)
            rw [← hnz.out] at this
            refine this.mono ?_
            rintro e w2 ⟨rfl, k, rfl⟩
            exact ⟨rfl, below_drewN (Below.refl _ _) k⟩
          have h12 : Hid (∀ w1, Below w10.heap.size w10 w1 → _) := fun w1 (h1 : Below w10.heap.size w10 w1) => known_is w1 (hE10.out.below h1)
          clear k9 k10 hI10
          go_wp2_with (first
            | (go_at_call 9; (with_reducible refine (h9.out).mono ?_); rintro e w11 ⟨b11, a11, c11, rfl, g11⟩; replace b11 := Hid.intro b11; replace g11 := Hid.intro g11; clear h9)
            | (go_at_call 15; (with_reducible refine (h15.out _ _ _ _ b11.out g11.out).mono ?_); rintro e w12 ⟨rfl, b12⟩; replace b12 := Hid.intro (bchn b11.out b12))
            | (go_at_call 12; (with_reducible refine (h12.out _ b12.out).mono ?_); rintro e w13 ⟨rfl, b13⟩; replace b13 := Hid.intro b13))
          all_goals first | omega | skip
          go_ret
          exact ⟨rfl, bchn b10.out (bchn b12.out b13.out)⟩
      · have hE4 := Hid.intro (hE.out.below b4.out)
        have hrb := Hid.intro (read_back k1 k2 w4 hE4.out xg)
        generalize (sUnit u).length = nx at *
        clear k1 k2 xg
        go_upto_region 6 with (go_at_call 10; (with_reducible refine (hrb.out).mono ?_); rintro e w5 ⟨b5, pa, pc, oa, oc, qa, qc, ga5, gc5, rfl, hI5⟩; have hI6 := Hid.intro (hI5.below (below_alloc w5 (.cells (unitV pa pc oa oc qa qc ga5 gc5 u) 30))); have hu6 := Hid.intro (keepB2 (keepB2 hu4.out b5) (below_alloc w5 (.cells (unitV pa pc oa oc qa qc ga5 gc5 u) 30))); have hI4b := Hid.intro ((hI4.out.below b5).below (below_alloc w5 (.cells (unitV pa pc oa oc qa qc ga5 gc5 u) 30))); have hv6 := Hid.intro (heap_alloc_new w5 (.cells (unitV pa pc oa oc qa qc ga5 gc5 u) 30)); have b6 := Hid.intro (bchn b4.out (bchn b5 (below_alloc w5 (.cells (unitV pa pc oa oc qa qc ga5 gc5 u) 30)))); clear hrb hI5 b5)
        all_goals first | omega | skip
        generalize w5.alloc (.cells (unitV pa pc oa oc qa qc ga5 gc5 u) 30) = w6 at *
        clear x0 x1 x2 x3
        obtain ⟨x0, x1, x2, x3⟩ := four_read hu6.out
        obtain ⟨z0, z1, z2, z3⟩ := four_read hv6.out
        have h18 := Hid.intro (sameUnit_any ta da ea ga pa oa qa ga5 tc dc ec gc pc oc qc gc5 u hu2.out w6 hI4b.out hI6.out)
        go_upto_region 8 with (go_at_call 18; (with_reducible refine (h18.out).mono ?_); rintro e w7 ⟨rfl, b7⟩; have b8 := Hid.intro (bchn b6.out b7); clear h18 b7)
        all_goals first | omega | skip
        have hE8 := Hid.intro (hE.out.below b8.out)
        have hL8 := O.Lies.below hl.out b8.out
        have hr8 := Hid.intro (read_two (c := cb) hE8.out hL8 (fun x hx => Nat.lt_of_lt_of_le (ha.out x hx) b8.out.size) (by have := hnz.out; omega) hcb.out)
        rw [← hnz.out] at hr8
        clear hL8
        go_upto_region 9 with (go_at_call 10; (with_reducible refine (hr8.out).mono ?_); rintro e w9 ⟨b9, hx9⟩; replace b9 := Hid.intro (bchn b8.out b9); rcases hx9 with ⟨q9, rfl⟩ | ⟨k9, k10, ra, rc, sa, sc, xa, xc, ya, yc, rfl, hI9⟩ <;> first | (replace k10 := Hid.intro k10; clear hr8) | clear hr8)
        all_goals first | omega | skip
        · have b10 := Hid.intro (bchn b9.out (below_alloc w9 (.cells uZ 30)))
          have hu9 := heap_alloc_new w9 (.cells uZ 30)
          generalize w9.alloc (.cells uZ 30) = w10 at *
          obtain ⟨y0, y1, y2, y3⟩ := four_read hu9
          have h18 := Hid.intro (same_E w10 none 0 none 0 none 0 none 0)
          have h12 : Hid (∀ w1, Below w10.heap.size w10 w1 → _) := fun w1 (h1 : Below w10.heap.size w10 w1) => known_is w1 (hE.out.below (bchn b10.out h1))
          go_wp2_with (first
            | (go_at_call 18; (with_reducible refine (h18.out).mono ?_); rintro e w11 ⟨rfl, b11⟩; replace b11 := Hid.intro b11)
            | (go_at_call 12; (with_reducible refine (h12.out _ b11.out).mono ?_); rintro e w12 ⟨rfl, b12⟩; replace b12 := Hid.intro b12))
          all_goals first | omega | skip
          go_ret
          exact ⟨rfl, bchn b10.out (bchn b11.out b12.out)⟩
        · obtain ⟨v, hv⟩ : ∃ v, v = rdU zb := ⟨_, rfl⟩
          rw [← hv] at k9 k10 hI9 ⊢
          have b10 := Hid.intro (bchn b9.out (below_alloc w9 (.cells (unitV ra rc sa sc xa xc ya yc v) 30)))
          have hu9 := heap_alloc_new w9 (.cells (unitV ra rc sa sc xa xc ya yc v) 30)
          have hI10 := Hid.intro (hI9.below (below_alloc w9 (.cells (unitV ra rc sa sc xa xc ya yc v) 30)))
          clear hI9 hv
          generalize w9.alloc (.cells (unitV ra rc sa sc xa xc ya yc v) 30) = w10 at *
          obtain ⟨y0, y1, y2, y3⟩ := four_read hu9
          have hE10 := Hid.intro (hE.out.below b10.out)
          have h9 : Hid (Calls Tryz.prog 9 #[.agg (unitV ra rc sa sc xa xc ya yc v)] w10 fun e w' => Below w10.heap.size w10 w' ∧ ∃ a c, e = .returned (.tuple #[.slice a nb c, .int .i64 0]) ∧ O.Got w' w10.heap.size a c zb) := by
            refine (write_two ra rc sa sc xa xc ya yc v k9.held k9.num w10 hE10.out hI10.out).mono ?_
            rintro e w11 ⟨hB, ⟨n, h0, _, hn, _⟩ | ⟨_, _, a, c, h1, h2⟩⟩
            · exact absurd (wrN_one hn (k9.wr (by rw [← k10.out, ← hnz.out]; omega))) h0
            · rw [← k10.out] at h1 h2
              rw [← hnz.out] at h1
              exact ⟨hB, a, c, h1, h2⟩
          have h15 : Hid (∀ w1 lo a c, Below w10.heap.size w10 w1 → O.Got w1 lo a c zb → Calls Tryz.prog 15 #[.slice a nb c, .slice ab nb cb] w1 fun e w' => e = .returned (.bool true) ∧ Below w1.heap.size w1 w') := fun w1 lo a c h1 h2 => by
            have hl1 := O.Lies.below hl.out (bchn b10.out h1)
            have := O.same_eq a ab c cb zb w1 (got_lies h2 hl.out.1).1 hl1 (by rw [← hnz.out]; unfold maxLen; omega)
            rw [← hnz.out] at this
            refine this.mono ?_
            rintro e w2 ⟨rfl, k, rfl⟩
            exact ⟨rfl, below_drewN (Below.refl _ _) k⟩
          have h12 : Hid (∀ w1, Below w10.heap.size w10 w1 → _) := fun w1 (h1 : Below w10.heap.size w10 w1) => known_is w1 (hE10.out.below h1)
          clear k9 k10 hI10
          go_wp2_with (first
            | (go_at_call 9; (with_reducible refine (h9.out).mono ?_); rintro e w11 ⟨b11, a11, c11, rfl, g11⟩; replace b11 := Hid.intro b11; replace g11 := Hid.intro g11; clear h9)
            | (go_at_call 15; (with_reducible refine (h15.out _ _ _ _ b11.out g11.out).mono ?_); rintro e w12 ⟨rfl, b12⟩; replace b12 := Hid.intro (bchn b11.out b12))
            | (go_at_call 12; (with_reducible refine (h12.out _ b12.out).mono ?_); rintro e w13 ⟨rfl, b13⟩; replace b13 := Hid.intro b13))
          all_goals first | omega | skip
          go_ret
          exact ⟨rfl, bchn b10.out (bchn b12.out b13.out)⟩

end Go.Proofs.YtmndccbeddaphaaGreatDoor
