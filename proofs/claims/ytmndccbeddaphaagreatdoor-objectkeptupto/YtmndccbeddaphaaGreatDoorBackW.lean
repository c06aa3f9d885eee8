/- ObjectBack's walk. -/
import Derived.Test.YtmndccbeddaphaaGreatDoorObn1
import Derived.BigQuiet
import Derived.Lib.SmallJoins
import Derived.Test.YtmndccbeddaphaaGreatDoorMb4
import Derived.Test.YtmndccbeddaphaaGreatDoorOrd4
namespace Go.Proofs.YtmndccbeddaphaaGreatDoor
open Go.ChangeShapes Go.WideShapes Go.ChangeAt Go.RowKit
set_option linter.unusedVariables false
set_option linter.unusedSimpArgs false
set_option maxRecDepth 100000
def BoolOut (r : Ending) : Prop := ∃ bv, r = .returned (.bool bv)
theorem boolOut (bv : Bool) : BoolOut (.returned (.bool bv)) := ⟨bv, rfl⟩
structure UsAt (w : World) (g n : Nat) : Prop where
  lt : g < w.heap.size
  each : ∀ i, i < n → ∃ ta t tc da d dc ea e ec, w.cell? ⟨g, i * 4, none⟩ = some (.slice ta t tc) ∧ w.cell? ⟨g, i * 4 + 1, none⟩ = some (.slice da d dc) ∧ w.cell? ⟨g, i * 4 + 2, none⟩ = some (.slice ea e ec) ∧ t ≤ 1100000 ∧ d ≤ 1100000 ∧ e ≤ 1100000
set_option maxHeartbeats 8000000 in
theorem large_is (g n : Nat) (hn : n ≤ 60) (w : World) (hx : UsAt w g n) :
    Calls Tryz.prog 13 #[.slice (some ⟨g, 0, none⟩) n n] w fun r w' => BoolOut r ∧ Below w.heap.size w w' := by
  replace hx := Hid.intro hx
  go_enter Tryz.func13, Tryz.ntmps13
  go_wp2
  all_goals first | omega | skip
  go_loopw [3, 4] (fun v3 v4 wr => ∃ (i m : Nat), v3 = .int .i64 (m : Int) ∧ v4 = .int .i64 (i : Int) ∧ i ≤ n ∧ m ≤ 3300000 * i ∧ Hid (Below w.heap.size w wr)) (fun v3 v4 wr => n - (intOf v4).toNat)
  case atStart => exact ⟨0, 0, rfl, rfl, by omega, by omega, Below.refl _ _⟩
  case round =>
    obtain ⟨i, m, rfl, rfl, hi, hm, hB⟩ := hrel
    by_cases hin : i < n
    · have q0 : decide ((i : Int) < (n : Int)) = true := by simp; omega
      have q1 : decide ((i : Int) < 65) = true := by simp; omega
      obtain ⟨ta, t, tc, da, d, dc, ea, e, ec, d0, d1, d2, ht, hd, he⟩ := hx.out.each i hin
      have c0 := (hB.out.cell (p := ⟨g, i * 4, none⟩) hx.out.lt).trans d0
      have c1 := (hB.out.cell (p := ⟨g, i * 4 + 1, none⟩) hx.out.lt).trans d1
      have c2 := (hB.out.cell (p := ⟨g, i * 4 + 2, none⟩) hx.out.lt).trans d2
      clear d0 d1 d2
      by_cases a1 : 600 < t
      · have b1 : decide (600 < t) = true := by simpa using a1
        have b2 : (600 : Int) < (t : Int) := by omega
        go_wp2
        all_goals first | omega | skip
        go_ret
        exact ⟨boolOut _, hB.out⟩
      · have b1 : decide (600 < t) = false := by simpa using a1
        have b2 : ¬ (600 : Int) < (t : Int) := by omega
        by_cases a2 : 300 < d
        · have b3 : decide (300 < d) = true := by simpa using a2
          have b4 : (300 : Int) < (d : Int) := by omega
          go_wp2
          all_goals first | omega | skip
          go_ret
          exact ⟨boolOut _, hB.out⟩
        · have b3 : decide (300 < d) = false := by simpa using a2
          have b4 : ¬ (300 : Int) < (d : Int) := by omega
          by_cases a3 : 100 < e
          · have b5 : decide (100 < e) = true := by simpa using a3
            have b6 : (100 : Int) < (e : Int) := by omega
            go_wp2
            all_goals first | omega | skip
            go_ret
            exact ⟨boolOut _, hB.out⟩
          · have b5 : decide (100 < e) = false := by simpa using a3
            have b6 : ¬ (100 : Int) < (e : Int) := by omega
            have w1 : IntKind.i64.wrap ((m : Int) + (t : Int)) = ((m + t : Nat) : Int) := by rw [IntKind.wrap_i64]; omega
            have w2 : IntKind.i64.wrap (((m + t : Nat) : Int) + (d : Int)) = ((m + t + d : Nat) : Int) := by rw [IntKind.wrap_i64]; omega
            have w3 : IntKind.i64.wrap (((m + t + d : Nat) : Int) + (e : Int)) = ((m + t + d + e : Nat) : Int) := by rw [IntKind.wrap_i64]; omega
            have w5 : IntKind.i64.wrap ((m : Int) + (t : Int) + (d : Int)) = ((m + t + d : Nat) : Int) := by rw [IntKind.wrap_i64]; omega
            have w4 : IntKind.i64.wrap ((m : Int) + (t : Int) + (d : Int) + (e : Int)) = ((m + t + d + e : Nat) : Int) := by rw [IntKind.wrap_i64]; omega
            go_wp2
            all_goals first | omega | skip
            go_quiet (fail)
            all_goals first | omega | skip
            go_wp2
            all_goals first | omega | skip
            go_roundw
            case rel => exact ⟨i + 1, m + t + d + e, by go_num, by go_num, by omega, by omega, below_drewN hB.out nq⟩
            case measure => simp [intOf]; omega
    · have q0 : decide ((i : Int) < (n : Int)) = false := by simp; omega
      obtain rfl : i = n := by omega
      go_wp2
      all_goals first | omega | skip
      go_ret
      exact ⟨boolOut _, hB.out⟩
end Go.Proofs.YtmndccbeddaphaaGreatDoor
namespace Go.Proofs.YtmndccbeddaphaaGreatDoor
open Go.ChangeShapes Go.WideShapes Go.ChangeAt Go.RowKit
set_option linter.unusedVariables false
set_option linter.unusedSimpArgs false
set_option maxRecDepth 100000
theorem conv_lies {w : World} {a : Option Addr} {zs : List Int} {m c : Nat} (hm : m = zs.length) (h : O.Lies w a zs) : (convert 22 9 (.slice a m c)).run Tryz.prog w = .ok (.string (strOfNums zs)) w := by
  subst hm
  rcases h.2 with rfl | ⟨b, off, rfl, hc⟩
  · exact (O.convert_none a c w).trans rfl
  · exact run_convert_bytes_arg (P := Tryz.prog) w 22 5 Tryz.underlying22 Tryz.underlying5 b off zs.length c zs rfl hc 9 Tryz.underlying9
theorem read_lit (w : World) (zs : List Int) (fr : Nat × Nat) (f1 f2 : Nat) (hE : Env w) (hz : O.AreBytes zs) (hn : zs.length ≤ 1000) (hb : rdBad zs = some ((f1 : Int), (f2 : Int))) : Calls Tryz.prog 10 #[.slice (some ⟨w.heap.size, 0, none⟩) zs.length zs.length] (w.alloc (.cells (O.cellsOf zs).toArray 5 fr)) fun e w' => Below w.heap.size w w' ∧ ∃ q, e = .returned (.tuple #[.agg uZ, .iface 66 (.pointer (some ⟨q, 0, none⟩))]) ∧ w'.heap[q]? = some (.cells #[.int .i64 (f1 : Int), .int .i64 (f2 : Int)] 68 (0, 0)) := by
  have hB := below_alloc w (.cells (O.cellsOf zs).toArray 5 fr)
  have hr := heap_alloc_new w (.cells (O.cellsOf zs).toArray 5 fr)
  have hl : O.Lies (w.alloc (.cells (O.cellsOf zs).toArray 5 fr)) (some ⟨w.heap.size, 0, none⟩) zs := by
    refine ⟨hz, .inr ⟨w.heap.size, 0, rfl, fun i hi => ?_⟩⟩
    rw [Joins.cell_of_block hr, Nat.zero_add, List.getElem?_toArray, O.cellsOf_get zs i hi]
  refine (read_bad f1 f2 (hE.below hB) hl (fun x hx => ?_) (by omega) (Nat.le_refl _) hb).mono ?_
  · cases hx
    simp
  · rintro e w' ⟨h1, h2⟩
    exact ⟨hB.trans (h1.mono hB.size), h2⟩
theorem same_E (w : World) (ta : Option Addr) (tc : Nat) (da : Option Addr) (dc : Nat) (ea : Option Addr) (ec : Nat) (ga : Option Addr) (gc : Nat) : Calls Tryz.prog 18 #[.agg #[.slice ta 0 tc, .slice da 0 dc, .slice ea 0 ec, .slice ga 0 gc], .agg uZ] w fun e w' => e = .returned (.bool true) ∧ Below w.heap.size w w' :=
  sameUnit_any ta da ea ga none none none none tc dc ec gc 0 0 0 0 uE heldU_E w ⟨.inl rfl, .inl rfl, .inl rfl, .inl rfl⟩ (unitIn_E w)
set_option maxHeartbeats 8000000 in
theorem known_is (w : World) (hE : Env w) : Calls Tryz.prog 12 #[] w fun e w' => e = .returned (.bool true) ∧ Below w.heap.size w w' := by
  have h9 := Hid.intro (write_E w hE)
  have hEH := Hid.intro hE
  have hlit : Hid (∀ w1, Env w1 → Calls Tryz.prog 10 #[.slice (some ⟨w1.heap.size, 0, none⟩) 4 4] (w1.alloc (.cells #[.int .u8 83, .int .u8 80, .int .u8 65, .int .u8 77] 5 (4, 5))) fun e w' => Below w1.heap.size w1 w' ∧ ∃ q, e = .returned (.tuple #[.agg uZ, .iface 66 (.pointer (some ⟨q, 0, none⟩))]) ∧ w'.heap[q]? = some (.cells #[.int .i64 3, .int .i64 15] 68 (0, 0))) := fun w1 h1 => read_lit w1 [83, 80, 65, 77] (4, 5) 3 15 h1 (by intro z hz; simp at hz; omega) (by decide) (by decide +kernel)
  have hrf : Hid (∀ w1 q, Env w1 → w1.heap[q]? = some (.cells #[.int .i64 3, .int .i64 15] 68 (0, 0)) → Calls Tryz.prog 11 #[.iface 66 (.pointer (some ⟨q, 0, none⟩)), .agg #[.int .i64 3, .int .i64 15]] w1 fun e w' => e = .returned (.bool true) ∧ Below w1.heap.size w1 w') := fun w1 q h1 h2 => refused_any q 3 15 (by decide) (by decide) (by decide) w1 h1.pow h2
  have hn28 := nil_eq28
  clear hE
  go_enter Tryz.func12, Tryz.ntmps12
  go_upto_region 4 with (first
    | (go_at_call 9; (with_reducible refine (h9.out).mono ?_); rintro e w1 ⟨b1, a1, c1, rfl, g1⟩; have hE1 := Hid.intro (hEH.out.below b1); obtain ⟨l1, l2, l3⟩ := got_lies g1 z13_bytes; have h10 := Hid.intro (read_E w1 a1 c1 hE1.out l1 l2 l3); have hcv := Hid.intro (fun W (hW : Below w1.heap.size w1 W) => (conv_lies (m := 13) (c := c1) rfl (O.Lies.below l1 hW))); replace b1 := Hid.intro b1; clear h9 l1 l2 g1)
    | (go_at_call 10; (with_reducible refine (h10.out).mono ?_); rintro e w2 ⟨b2, ta, tc, da, dc, ea, ec, ga, gc, rfl⟩; have bA := b2.trans ((below_alloc w2 (.cells #[.slice ta 0 tc, .slice da 0 dc, .slice ea 0 ec, .slice ga 0 gc] 30)).mono b2.size); have hu2 := heap_alloc_new w2 (.cells #[.slice ta 0 tc, .slice da 0 dc, .slice ea 0 ec, .slice ga 0 gc] 30); have hsA : (w2.alloc (.cells #[.slice ta 0 tc, .slice da 0 dc, .slice ea 0 ec, .slice ga 0 gc] 30)).heap.size = w2.heap.size + 1 := (by simp); have h10b := hlit.out _ (hE1.out.below bA); rw [hsA] at h10b; replace hsA := Hid.intro hsA; replace h10b := Hid.intro h10b; have k22 := Joins.run_convert_bytes_const_at (P := Tryz.prog) (w2.alloc (.cells #[.slice ta 0 tc, .slice da 0 dc, .slice ea 0 ec, .slice ga 0 gc] 30)) 22 5 #[.int .u8 83, .int .u8 80, .int .u8 65, .int .u8 77] 4 4 (w2.heap.size + 1) (by simp) Tryz.underlying22 Tryz.underlying5; replace bA := Hid.intro bA; replace hu2 := Hid.intro hu2; clear h10 b2)
    | (go_at_call 10; (with_reducible refine (h10b.out).mono ?_); rintro e w3 ⟨b3, q, rfl, hq⟩; rw [← hsA.out] at b3; have bB := b3.trans ((below_alloc w3 (.cells uZ 30)).mono b3.size); have hu3 := (bB.block w2.heap.size (by simp)).trans hu2.out; have hq3 := ((below_alloc w3 (.cells uZ 30)).block q (blk_lt hq)).trans hq; have bC := bA.out.trans (bB.mono bA.out.size); have kc := hcv.out _ bC; rw [show strOfNums z13 = ⟨#[83, 80, 65, 78, 1, 0, 0, 0, 0, 0, 0, 0, 0]⟩ from rfl] at kc; have hE3 := Hid.intro (hE1.out.below bC); have bD := Hid.intro (b1.out.trans (bC.mono b1.out.size)); obtain ⟨y0, y1, y2, y3⟩ := four_read hu3; replace hq3 := Hid.intro hq3; clear h10b b3 hq bA bB bC hu2 hu3 hcv k22))
  all_goals first | omega | skip
  generalize w3.alloc (.cells uZ 30) = w4 at *
  have h18 := Hid.intro (same_E w4 ta tc da dc ea ec ga gc)
  have h11 : Hid (∀ w5, Below w4.heap.size w4 w5 → _) := fun w5 (b5 : Below w4.heap.size w4 w5) => hrf.out w5 q (hE3.out.below b5) ((b5.block q (blk_lt hq3.out)).trans hq3.out)
  go_wp2_with (first
    | (go_at_call 18; (with_reducible refine (h18.out).mono ?_); rintro e w5 ⟨rfl, b5⟩; replace b5 := Hid.intro b5)
    | (go_at_call 11; (with_reducible refine (h11.out _ b5.out).mono ?_); rintro e w6 ⟨rfl, b6⟩; replace b6 := Hid.intro b6))
  all_goals first | omega | skip
  go_ret
  exact ⟨rfl, bD.out.trans ((b5.out.trans (b6.out.mono b5.out.size)).mono bD.out.size)⟩
end Go.Proofs.YtmndccbeddaphaaGreatDoor
namespace Go.Proofs.YtmndccbeddaphaaGreatDoor
open Go.ChangeShapes Go.WideShapes Go.ChangeAt Go.RowKit
set_option linter.unusedVariables false
set_option linter.unusedSimpArgs false
set_option maxRecDepth 100000
theorem neq_if (a : Addr) (w : World) : (binOp .neq 32 (.iface 66 (.pointer (some a))) .nilIface).run Tryz.prog w = .ok (.bool true) w := by kernel_rfl
theorem neq_nil (w : World) : (binOp .neq 32 .nilIface .nilIface).run Tryz.prog w = .ok (.bool false) w := by kernel_rfl
theorem keepB2 {w w' : World} {g : Nat} {x : Obj} (h : w.heap[g]? = some x) (hb : Below w.heap.size w w') : w'.heap[g]? = some x := (hb.block g (Array.getElem?_eq_some_iff.1 h).1).trans h
theorem bchn {w w1 w2 : World} (h1 : Below w.heap.size w w1) (h2 : Below w1.heap.size w1 w2) : Below w.heap.size w w2 := h1.trans (h2.mono h1.size)
theorem usAt_one (ta : Option Addr) (tc : Nat) (da : Option Addr) (dc : Nat) (ea : Option Addr) (ec : Nat) (ga : Option Addr) (gc : Nat) (u : UVal) (hu : HeldU u) (w : World) : UsAt (w.alloc (.cells (unitV ta tc da dc ea ec ga gc u) 30)) w.heap.size 1 := by
  have e1 := heap_alloc_new w (.cells (unitV ta tc da dc ea ec ga gc u) 30)
  refine ⟨blk_lt e1, fun i hi => ?_⟩
  obtain rfl : i = 0 := by omega
  obtain ⟨d0, d1, d2, d3⟩ := four_read e1
  exact ⟨_, _, _, _, _, _, _, _, _, d0, d1, d2, hu.text.1, hu.data.1, hu.equs.1⟩
theorem usAt_blk (ta : Option Addr) (tc : Nat) (da : Option Addr) (dc : Nat) (ea : Option Addr) (ec : Nat) (ga : Option Addr) (gc : Nat) (u : UVal) (hu : HeldU u) {w : World} {g : Nat} (hb : w.heap[g]? = some (.cells (unitV ta tc da dc ea ec ga gc u) 30 (0, 0))) : UsAt w g 1 := by
  refine ⟨blk_lt hb, fun i hi => ?_⟩
  obtain rfl : i = 0 := by omega
  obtain ⟨d0, d1, d2, d3⟩ := four_read hb
  exact ⟨_, _, _, _, _, _, _, _, _, d0, d1, d2, hu.text.1, hu.data.1, hu.equs.1⟩
theorem sUnit_bytes {u : UVal} (h : WOk u) : O.AreBytes (sUnit u) := by
  have hL : ∀ x : Lin, O.AreBytes (sLin x) := fun x => by
    unfold sLin sTms
    intro z hz
    rcases List.mem_append.1 hz with hz | hz
    · rcases List.mem_append.1 hz with hz | hz
      · exact O.leB_bytes _ _ z hz
      · obtain ⟨t, _, ht⟩ := List.mem_flatMap.1 hz
        unfold sTm at ht
        rcases List.mem_append.1 ht with ht | ht
        · exact O.putT_bytes [] _ (fun z hz => absurd hz (by simp)) z ht
        · exact O.leB_bytes _ _ z ht
    · exact O.leB_bytes _ _ z hz
  have hX : ∀ s, O.AreBytes (sTx s) := fun s => O.putT_bytes [] _ (fun z hz => absurd hz (by simp))
  have hI : ∀ x : Itm, O.AreBytes (sItem x) := fun x => by
    unfold sItem
    intro z hz
    rcases List.mem_append.1 hz with hz | hz
    · exact O.leB_bytes _ _ z hz
    · split at hz
      · exact hX _ z hz
      · split at hz
        · unfold sCode at hz
          simp only [List.mem_append] at hz
          rcases hz with (((hz | hz) | hz) | hz) | hz
          · exact O.leB_bytes _ _ z hz
          · exact O.leB_bytes _ _ z hz
          · exact O.leB_bytes _ _ z hz
          · exact O.leB_bytes _ _ z hz
          · split at hz
            · exact hL _ z hz
            · cases hz
        · split at hz
          · exact O.leB_bytes _ _ z hz
          · split at hz
            · exact hL _ z hz
            · split at hz
              · exact O.leB_bytes _ _ z hz
              · cases hz
  have hS : ∀ {α : Type} (f : α → List Int) (l : List α), (∀ x, O.AreBytes (f x)) → O.AreBytes (sL f l) := fun f l hf z hz => by
    unfold sL at hz
    rcases List.mem_append.1 hz with hz | hz
    · exact O.leB_bytes _ _ z hz
    · obtain ⟨t, _, ht⟩ := List.mem_flatMap.1 hz
      exact hf t z ht
  unfold sUnit
  intro z hz
  simp only [List.mem_append] at hz
  rcases hz with hz | hz | hz | hz | hz
  · unfold hdL at hz; simp at hz; omega
  · exact hS _ _ hI z hz
  · exact hS _ _ hI z hz
  · exact hS _ _ (fun q z hz => by unfold sEqu at hz; rcases List.mem_append.1 hz with hz | hz; exact hX _ z hz; exact hL _ z hz) z hz
  · exact hS _ _ hX z hz
theorem write_two (ta : Option Addr) (tc : Nat) (da : Option Addr) (dc : Nat) (ea : Option Addr) (ec : Nat) (ga : Option Addr) (gc : Nat) (u : UVal) (hu : HeldU u) (hN : NumU u) (w : World) (hE : Env w) (hI : UnitIn w ta da ea ga u) : Calls Tryz.prog 9 #[.agg (unitV ta tc da dc ea ec ga gc u)] w fun e w' => Below w.heap.size w w' ∧ ((∃ n, n ≠ 0 ∧ (n == 0) = false ∧ WrN u n ∧ e = .returned (.tuple #[.slice none 0 0, .int .i64 n])) ∨ (WOk u ∧ (sUnit u).length ≤ 1048576 ∧ ∃ a c, e = .returned (.tuple #[.slice a (sUnit u).length c, .int .i64 0]) ∧ O.Got w' w.heap.size a c (sUnit u))) := by
  refine (write_is ta tc da dc ea ec ga gc u hu hN w hE.tab hI).mono ?_
  rintro e w' ⟨hB, n, hn, ⟨h0, h⟩ | ⟨rfl, a, c, h1, h2⟩⟩
  · exact ⟨hB, .inl ⟨n, h0, by simpa using h0, hn, h⟩⟩
  · obtain ⟨k1, k2⟩ := wok_of hu hN hn
    exact ⟨hB, .inr ⟨k1, k2, a, c, h1, h2⟩⟩
theorem read_back {u : UVal} (hu : WOk u) (hl : (sUnit u).length ≤ 1048576) (w : World) (hE : Env w) {lo : Nat} {a : Option Addr} {c : Nat} (hg : O.Got w lo a c (sUnit u)) : Calls Tryz.prog 10 #[.slice a (sUnit u).length c] w fun e w' => Below w.heap.size w w' ∧ ∃ ta tc da dc ea ec ga gc, e = .returned (.tuple #[.agg (unitV ta tc da dc ea ec ga gc u), .nilIface]) ∧ UnitIn w' ta da ea ga u := by
  obtain ⟨l1, l2, l3⟩ := got_lies hg (sUnit_bytes hu)
  have hf := unit_fwd hu []
  rw [List.append_nil, if_pos rfl] at hf
  refine (read_ok hE l1 l2 hl l3 hf.2).mono ?_
  rintro e w' ⟨hB, ta, tc, da, dc, ea, ec, ga, gc, h1, h2⟩
  rw [hf.1] at h1 h2
  exact ⟨hB, ta, tc, da, dc, ea, ec, ga, gc, h1, h2⟩
theorem read_two {w : World} {a : Option Addr} {c : Nat} {zs : List Int} (hE : Env w) (hl : O.Lies w a zs) (ha : ∀ x, a = some x → x.block < w.heap.size) (hn : zs.length ≤ 1048576) (hc : zs.length ≤ c) : Calls Tryz.prog 10 #[.slice a zs.length c] w fun e w' => Below w.heap.size w w' ∧ ((∃ q, e = .returned (.tuple #[.agg uZ, .iface 66 (.pointer (some ⟨q, 0, none⟩))])) ∨ (WOk (rdU zs) ∧ zs = sUnit (rdU zs) ∧ ∃ ta tc da dc ea ec ga gc, e = .returned (.tuple #[.agg (unitV ta tc da dc ea ec ga gc (rdU zs)), .nilIface]) ∧ UnitIn w' ta da ea ga (rdU zs))) := by
  refine (read_is hl ha hn hc hE.tab).mono ?_
  rintro e w' ⟨hB, ⟨f, q, h1, h2, h3⟩ | ⟨h1, vt, vd, ve, vg, LT, LD, LE, LG, h2, h3, m1, m2, m3, m4⟩⟩
  · exact ⟨hB, .inl ⟨q, h2⟩⟩
  · obtain ⟨ta, tc, da, dc, ea, ec, ga, gc, hv, hI⟩ := h3.unitIn m1 m2 m3 m4
    obtain ⟨k1, k2⟩ := unit_bwd hl.1 h1
    exact ⟨hB, .inr ⟨k1, k2, ta, tc, da, dc, ea, ec, ga, gc, by rw [h2, hv], hI⟩⟩
set_option maxHeartbeats 16000000 in
theorem backW (ta : Option Addr) (tc : Nat) (da : Option Addr) (dc : Nat) (ea : Option Addr) (ec : Nat) (ga : Option Addr) (gc : Nat) (u : UVal) (hu : HeldU u) (hN : NumU u) (ab : Option Addr) (cb : Nat) (zb : List Int) (w : World) (hE : Env w) (hI : UnitIn w ta da ea ga u) (hl : O.Lies w ab zb) (ha : ∀ x, ab = some x → x.block < w.heap.size) (hcb : zb.length ≤ cb) (hbig : zb.length ≤ maxLen) : Calls Tryz.prog 6 #[.agg (unitV ta tc da dc ea ec ga gc u), .slice ab zb.length cb] w fun e w' => e = .returned (.bool true) ∧ Below w.heap.size w w' := by
  obtain ⟨nb, hnz⟩ : ∃ nb, nb = zb.length := ⟨_, rfl⟩
  rw [← hnz] at hbig ⊢
  unfold maxLen at hbig
  replace hnz := Hid.intro hnz
  have n_if := neq_if
  have n_nil := neq_nil
  have e1 := heap_alloc_new w (.cells (unitV ta tc da dc ea ec ga gc u) 30)
  have b1 := Hid.intro (below_alloc w (.cells (unitV ta tc da dc ea ec ga gc u) 30))
  replace hl := Hid.intro hl
  replace ha := Hid.intro ha
  replace hcb := Hid.intro hcb
  replace hE := Hid.intro hE
  have hI1 := Hid.intro (hI.below b1.out)
  have hu2 := Hid.intro hu
  have hN2 := Hid.intro hN
  clear hI hu hN
  obtain ⟨x0, x1, x2, x3⟩ := four_read e1
  have e1h := Hid.intro e1
  have h13 : Hid (∀ w1 g, w1.heap[g]? = some (.cells (unitV ta tc da dc ea ec ga gc u) 30 (0, 0)) → Calls Tryz.prog 13 #[.slice (some ⟨g, 0, none⟩) 1 1] w1 fun r w' => BoolOut r ∧ Below w1.heap.size w1 w') := fun w1 g h1 => large_is g 1 (by decide) w1 (usAt_blk ta tc da dc ea ec ga gc u hu2.out h1)
  have h13a := Hid.intro (h13.out ((w.alloc (.cells (unitV ta tc da dc ea ec ga gc u) 30)).alloc (.cells (unitV ta tc da dc ea ec ga gc u) 30)) (w.heap.size + 1) (by have := heap_alloc_new (w.alloc (.cells (unitV ta tc da dc ea ec ga gc u) 30)) (.cells (unitV ta tc da dc ea ec ga gc u) 30); rw [World.size_alloc] at this; exact this))
  clear h13
  go_enter Tryz.func6, Tryz.ntmps6
  have h12 : Hid (∀ w1, Below w.heap.size w w1 → Calls Tryz.prog 12 #[] w1 fun e w' => e = .returned (.bool true) ∧ Below w.heap.size w w') := fun w1 h1 => (known_is w1 (hE.out.below h1)).mono (fun e w2 h => ⟨h.1, bchn h1 h.2⟩)
  have b2 := Hid.intro (bchn b1.out (below_alloc (w.alloc (.cells (unitV ta tc da dc ea ec ga gc u) 30)) (.cells (unitV ta tc da dc ea ec ga gc u) 30)))
  rcases Nat.lt_or_ge 3000 nb with hnb | hnb
  · have q0 : decide ((nb : Int) > 3000) = true := by simp; omega
    have q1 : decide ((3000 : Int) < (nb : Int)) = true := by simp; omega
    go_wp2_with (first
      | (go_at_call 13; (with_reducible refine (h13a.out).mono ?_); rintro e w3 ⟨⟨bv, rfl⟩, b3⟩; replace b3 := Hid.intro (bchn b2.out b3); cases bv <;> clear h13a)
      | (go_at_call 12; (with_reducible refine (h12.out _ b3.out).mono ?_); rintro e w4 ⟨rfl, b4⟩; replace b4 := Hid.intro b4))
    all_goals first | omega | skip
    all_goals go_ret
    all_goals exact ⟨rfl, b4.out⟩
  · have q0 : decide ((nb : Int) > 3000) = false := by simp; omega
    have q1 : decide ((3000 : Int) < (nb : Int)) = false := by simp; omega
    go_upto_region 3 with (first
      | (go_at_call 13; (with_reducible refine (h13a.out).mono ?_); rintro e w3 ⟨⟨bv, rfl⟩, b3⟩; have b3' := Hid.intro (bchn b1.out (bchn (below_alloc (w.alloc (.cells (unitV ta tc da dc ea ec ga gc u) 30)) (.cells (unitV ta tc da dc ea ec ga gc u) 30)) b3)); have hu3 := Hid.intro (keepB2 e1h.out (bchn (below_alloc (w.alloc (.cells (unitV ta tc da dc ea ec ga gc u) 30)) (.cells (unitV ta tc da dc ea ec ga gc u) 30)) b3)); have hI3 := Hid.intro (hI1.out.below (bchn (below_alloc (w.alloc (.cells (unitV ta tc da dc ea ec ga gc u) 30)) (.cells (unitV ta tc da dc ea ec ga gc u) 30)) b3)); clear b3; cases bv <;> clear h13a)
      | (go_at_call 12; (with_reducible refine (h12.out _ b3'.out).mono ?_); rintro e w4 ⟨rfl, b4⟩; replace b4 := Hid.intro b4))
    all_goals first | omega | skip
    rotate_left
    · go_ret
      exact ⟨rfl, b4.out⟩
    · clear x0 x1 x2 x3 e1
      obtain ⟨x0, x1, x2, x3⟩ := four_read hu3.out
      have hE3 := Hid.intro (hE.out.below b3'.out)
      have h9 := Hid.intro (write_two ta tc da dc ea ec ga gc u hu2.out hN2.out w3 hE3.out hI3.out)
      go_upto_region 4 with (go_at_call 9; (with_reducible refine (h9.out).mono ?_); rintro e w4 ⟨b4, h4⟩; have hu4 := Hid.intro (keepB2 hu3.out b4); have hI4 := Hid.intro (hI3.out.below b4); replace b4 := Hid.intro (bchn b3'.out b4); rcases h4 with ⟨n, hn0, hn1, hn2, rfl⟩ | ⟨k1, k2, xa, xc, rfl, xg⟩ <;> clear h9)
      all_goals first | omega | skip
      · clear hn2
        go_upto_region 8 with fail
        all_goals first | omega | skip
        have b8 := b4
        have hE8 := Hid.intro (hE.out.below b8.out)
        have hL8 := O.Lies.below hl.out b8.out
        have hr8 := Hid.intro (read_two (c := cb) hE8.out hL8 (fun x hx => Nat.lt_of_lt_of_le (ha.out x hx) b8.out.size) (by have := hnz.out; omega) hcb.out)
        rw [← hnz.out] at hr8
        clear hL8
        go_upto_region 9 with (go_at_call 10; (with_reducible refine (hr8.out).mono ?_); rintro e w9 ⟨b9, hx9⟩; replace b9 := Hid.intro (bchn b8.out b9); rcases hx9 with ⟨q9, rfl⟩ | ⟨k9, k10, ra, rc, sa, sc, xa, xc, ya, yc, rfl, hI9⟩ <;> first | (replace k10 := Hid.intro k10; clear hr8) | clear hr8)
        all_goals first | omega | skip
        · have b10 := Hid.intro (bchn b9.out (below_alloc w9 (.cells uZ 30)))
          have hu9 := heap_alloc_new w9 (.cells uZ 30)
          generalize w9.alloc (.cells uZ 30) = w10 at *
          obtain ⟨y0, y1, y2, y3⟩ := four_read hu9
          have h18 := Hid.intro (same_E w10 none 0 none 0 none 0 none 0)
          have h12 : Hid (∀ w1, Below w10.heap.size w10 w1 → _) := fun w1 (h1 : Below w10.heap.size w10 w1) => known_is w1 (hE.out.below (bchn b10.out h1))
          go_wp2_with (first
            | (go_at_call 18; (with_reducible refine (h18.out).mono ?_); rintro e w11 ⟨rfl, b11⟩; replace b11 := Hid.intro b11)
            | (go_at_call 12; (with_reducible refine (h12.out _ b11.out).mono ?_); rintro e w12 ⟨rfl, b12⟩; replace b12 := Hid.intro b12))
          all_goals first | omega | skip
          go_ret
          exact ⟨rfl, bchn b10.out (bchn b11.out b12.out)⟩
        · obtain ⟨v, hv⟩ : ∃ v, v = rdU zb := ⟨_, rfl⟩
          rw [← hv] at k9 k10 hI9 ⊢
          have b10 := Hid.intro (bchn b9.out (below_alloc w9 (.cells (unitV ra rc sa sc xa xc ya yc v) 30)))
          have hu9 := heap_alloc_new w9 (.cells (unitV ra rc sa sc xa xc ya yc v) 30)
          have hI10 := Hid.intro (hI9.below (below_alloc w9 (.cells (unitV ra rc sa sc xa xc ya yc v) 30)))
          clear hI9 hv
          generalize w9.alloc (.cells (unitV ra rc sa sc xa xc ya yc v) 30) = w10 at *
          obtain ⟨y0, y1, y2, y3⟩ := four_read hu9
          have hE10 := Hid.intro (hE.out.below b10.out)
          have h9 : Hid (Calls Tryz.prog 9 #[.agg (unitV ra rc sa sc xa xc ya yc v)] w10 fun e w' => Below w10.heap.size w10 w' ∧ ∃ a c, e = .returned (.tuple #[.slice a nb c, .int .i64 0]) ∧ O.Got w' w10.heap.size a c zb) := by
            refine (write_two ra rc sa sc xa xc ya yc v k9.held k9.num w10 hE10.out hI10.out).mono ?_
            rintro e w11 ⟨hB, ⟨n, h0, _, hn, _⟩ | ⟨_, _, a, c, h1, h2⟩⟩
            · exact absurd (wrN_one hn (k9.wr (by rw [← k10.out, ← hnz.out]; omega))) h0
            · rw [← k10.out] at h1 h2
              rw [← hnz.out] at h1
              exact ⟨hB, a, c, h1, h2⟩
          have h15 : Hid (∀ w1 lo a c, Below w10.heap.size w10 w1 → O.Got w1 lo a c zb → Calls Tryz.prog 15 #[.slice a nb c, .slice ab nb cb] w1 fun e w' => e = .returned (.bool true) ∧ Below w1.heap.size w1 w') := fun w1 lo a c h1 h2 => by
            have hl1 := O.Lies.below hl.out (bchn b10.out h1)
            have := O.same_eq a ab c cb zb w1 (got_lies h2 hl.out.1).1 hl1 (by rw [← hnz.out]; unfold maxLen; omega)
            rw [← hnz.out] at this
            refine this.mono ?_
            rintro e w2 ⟨rfl, k, rfl⟩
            exact ⟨rfl, below_drewN (Below.refl _ _) k⟩
          have h12 : Hid (∀ w1, Below w10.heap.size w10 w1 → _) := fun w1 (h1 : Below w10.heap.size w10 w1) => known_is w1 (hE10.out.below h1)
          clear k9 k10 hI10
          go_wp2_with (first
            | (go_at_call 9; (with_reducible refine (h9.out).mono ?_); rintro e w11 ⟨b11, a11, c11, rfl, g11⟩; replace b11 := Hid.intro b11; replace g11 := Hid.intro g11; clear h9)
            | (go_at_call 15; (with_reducible refine (h15.out _ _ _ _ b11.out g11.out).mono ?_); rintro e w12 ⟨rfl, b12⟩; replace b12 := Hid.intro (bchn b11.out b12))
            | (go_at_call 12; (with_reducible refine (h12.out _ b12.out).mono ?_); rintro e w13 ⟨rfl, b13⟩; replace b13 := Hid.intro b13))
          all_goals first | omega | skip
          go_ret
          exact ⟨rfl, bchn b10.out (bchn b12.out b13.out)⟩
      · have hE4 := Hid.intro (hE.out.below b4.out)
        have hrb := Hid.intro (read_back k1 k2 w4 hE4.out xg)
        generalize (sUnit u).length = nx at *
        clear k1 k2 xg
        go_upto_region 6 with (go_at_call 10; (with_reducible refine (hrb.out).mono ?_); rintro e w5 ⟨b5, pa, pc, oa, oc, qa, qc, ga5, gc5, rfl, hI5⟩; have hI6 := Hid.intro (hI5.below (below_alloc w5 (.cells (unitV pa pc oa oc qa qc ga5 gc5 u) 30))); have hu6 := Hid.intro (keepB2 (keepB2 hu4.out b5) (below_alloc w5 (.cells (unitV pa pc oa oc qa qc ga5 gc5 u) 30))); have hI4b := Hid.intro ((hI4.out.below b5).below (below_alloc w5 (.cells (unitV pa pc oa oc qa qc ga5 gc5 u) 30))); have hv6 := Hid.intro (heap_alloc_new w5 (.cells (unitV pa pc oa oc qa qc ga5 gc5 u) 30)); have b6 := Hid.intro (bchn b4.out (bchn b5 (below_alloc w5 (.cells (unitV pa pc oa oc qa qc ga5 gc5 u) 30)))); clear hrb hI5 b5)
        all_goals first | omega | skip
        generalize w5.alloc (.cells (unitV pa pc oa oc qa qc ga5 gc5 u) 30) = w6 at *
        clear x0 x1 x2 x3
        obtain ⟨x0, x1, x2, x3⟩ := four_read hu6.out
        obtain ⟨z0, z1, z2, z3⟩ := four_read hv6.out
        have h18 := Hid.intro (sameUnit_any ta da ea ga pa oa qa ga5 tc dc ec gc pc oc qc gc5 u hu2.out w6 hI4b.out hI6.out)
        go_upto_region 8 with (go_at_call 18; (with_reducible refine (h18.out).mono ?_); rintro e w7 ⟨rfl, b7⟩; have b8 := Hid.intro (bchn b6.out b7); clear h18 b7)
        all_goals first | omega | skip
        have hE8 := Hid.intro (hE.out.below b8.out)
        have hL8 := O.Lies.below hl.out b8.out
        have hr8 := Hid.intro (read_two (c := cb) hE8.out hL8 (fun x hx => Nat.lt_of_lt_of_le (ha.out x hx) b8.out.size) (by have := hnz.out; omega) hcb.out)
        rw [← hnz.out] at hr8
        clear hL8
        go_upto_region 9 with (go_at_call 10; (with_reducible refine (hr8.out).mono ?_); rintro e w9 ⟨b9, hx9⟩; replace b9 := Hid.intro (bchn b8.out b9); rcases hx9 with ⟨q9, rfl⟩ | ⟨k9, k10, ra, rc, sa, sc, xa, xc, ya, yc, rfl, hI9⟩ <;> first | (replace k10 := Hid.intro k10; clear hr8) | clear hr8)
        all_goals first | omega | skip
        · have b10 := Hid.intro (bchn b9.out (below_alloc w9 (.cells uZ 30)))
          have hu9 := heap_alloc_new w9 (.cells uZ 30)
          generalize w9.alloc (.cells uZ 30) = w10 at *
          obtain ⟨y0, y1, y2, y3⟩ := four_read hu9
          have h18 := Hid.intro (same_E w10 none 0 none 0 none 0 none 0)
          have h12 : Hid (∀ w1, Below w10.heap.size w10 w1 → _) := fun w1 (h1 : Below w10.heap.size w10 w1) => known_is w1 (hE.out.below (bchn b10.out h1))
          go_wp2_with (first
            | (go_at_call 18; (with_reducible refine (h18.out).mono ?_); rintro e w11 ⟨rfl, b11⟩; replace b11 := Hid.intro b11)
            | (go_at_call 12; (with_reducible refine (h12.out _ b11.out).mono ?_); rintro e w12 ⟨rfl, b12⟩; replace b12 := Hid.intro b12))
          all_goals first | omega | skip
          go_ret
          exact ⟨rfl, bchn b10.out (bchn b11.out b12.out)⟩
        · obtain ⟨v, hv⟩ : ∃ v, v = rdU zb := ⟨_, rfl⟩
          rw [← hv] at k9 k10 hI9 ⊢
          have b10 := Hid.intro (bchn b9.out (below_alloc w9 (.cells (unitV ra rc sa sc xa xc ya yc v) 30)))
          have hu9 := heap_alloc_new w9 (.cells (unitV ra rc sa sc xa xc ya yc v) 30)
          have hI10 := Hid.intro (hI9.below (below_alloc w9 (.cells (unitV ra rc sa sc xa xc ya yc v) 30)))
          clear hI9 hv
          generalize w9.alloc (.cells (unitV ra rc sa sc xa xc ya yc v) 30) = w10 at *
          obtain ⟨y0, y1, y2, y3⟩ := four_read hu9
          have hE10 := Hid.intro (hE.out.below b10.out)
          have h9 : Hid (Calls Tryz.prog 9 #[.agg (unitV ra rc sa sc xa xc ya yc v)] w10 fun e w' => Below w10.heap.size w10 w' ∧ ∃ a c, e = .returned (.tuple #[.slice a nb c, .int .i64 0]) ∧ O.Got w' w10.heap.size a c zb) := by
            refine (write_two ra rc sa sc xa xc ya yc v k9.held k9.num w10 hE10.out hI10.out).mono ?_
            rintro e w11 ⟨hB, ⟨n, h0, _, hn, _⟩ | ⟨_, _, a, c, h1, h2⟩⟩
            · exact absurd (wrN_one hn (k9.wr (by rw [← k10.out, ← hnz.out]; omega))) h0
            · rw [← k10.out] at h1 h2
              rw [← hnz.out] at h1
              exact ⟨hB, a, c, h1, h2⟩
          have h15 : Hid (∀ w1 lo a c, Below w10.heap.size w10 w1 → O.Got w1 lo a c zb → Calls Tryz.prog 15 #[.slice a nb c, .slice ab nb cb] w1 fun e w' => e = .returned (.bool true) ∧ Below w1.heap.size w1 w') := fun w1 lo a c h1 h2 => by
            have hl1 := O.Lies.below hl.out (bchn b10.out h1)
            have := O.same_eq a ab c cb zb w1 (got_lies h2 hl.out.1).1 hl1 (by rw [← hnz.out]; unfold maxLen; omega)
            rw [← hnz.out] at this
            refine this.mono ?_
            rintro e w2 ⟨rfl, k, rfl⟩
            exact ⟨rfl, below_drewN (Below.refl _ _) k⟩
          have h12 : Hid (∀ w1, Below w10.heap.size w10 w1 → _) := fun w1 (h1 : Below w10.heap.size w10 w1) => known_is w1 (hE10.out.below h1)
          clear k9 k10 hI10
          go_wp2_with (first
            | (go_at_call 9; (with_reducible refine (h9.out).mono ?_); rintro e w11 ⟨b11, a11, c11, rfl, g11⟩; replace b11 := Hid.intro b11; replace g11 := Hid.intro g11; clear h9)
            | (go_at_call 15; (with_reducible refine (h15.out _ _ _ _ b11.out g11.out).mono ?_); rintro e w12 ⟨rfl, b12⟩; replace b12 := Hid.intro (bchn b11.out b12))
            | (go_at_call 12; (with_reducible refine (h12.out _ b12.out).mono ?_); rintro e w13 ⟨rfl, b13⟩; replace b13 := Hid.intro b13))
          all_goals first | omega | skip
          go_ret
          exact ⟨rfl, bchn b10.out (bchn b12.out b13.out)⟩
end Go.Proofs.YtmndccbeddaphaaGreatDoor
