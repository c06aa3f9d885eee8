/- object: the law's known. -/
import Derived.Test.YtmndccbeddaphaaGreatDoorObn1
import Derived.Lib.SmallJoins
namespace Go.Proofs.YtmndccbeddaphaaGreatDoor
open Go.ChangeShapes Go.WideShapes Go.ChangeAt Go.RowKit
set_option linter.unusedVariables false
set_option linter.unusedSimpArgs false
set_option maxRecDepth 100000

theorem conv_lies {w : World} {a : Option Addr} {zs : List Int} {m c : Nat} (hm : m = zs.length) (h : O.Lies w a zs) : (convert 22 9 (.slice a m c)).run Tryz.prog w = .ok (.string (strOfNums zs)) w := by
  subst hm
  rcases h.2 with rfl | ⟨b, off, rfl, hc⟩
  · exact (O.convert_none a c w).trans rfl
  · exact run_convert_bytes_arg (P := Tryz.prog) w 22 5 Tryz.underlying22 Tryz.underlying5 b off zs.length c zs rfl hc 9 Tryz.underlying9

/-- Read of bytes that were laid out -/
theorem read_lit (w : World) (zs : List Int) (fr : Nat × Nat) (f1 f2 : Nat) (hE : Env w) (hz : O.AreBytes zs) (hn : zs.length ≤ 1000) (hb : rdBad zs = some ((f1 : Int), (f2 : Int))) : Calls Tryz.prog 10 #[.slice (some ⟨w.heap.size, 0, none⟩) zs.length zs.length] (w.alloc (.cells (O.cellsOf zs).toArray 5 fr)) fun e w' => Below w.heap.size w w' ∧ ∃ q, e = .returned (.tuple #[.agg uZ, .iface 66 (.pointer (some ⟨q, 0, none⟩))]) ∧ w'.heap[q]? = some (.cells #[.int .i64 (f1 : Int), .int .i64 (f2 : Int)] 68 (0, 0)) := by
  have hB := below_alloc w (.cells (O.cellsOf zs).toArray 5 fr)
  have hr := heap_alloc_new w (.cells (O.cellsOf zs).toArray 5 fr)
  have hl : O.Lies (w.alloc (.cells (O.cellsOf zs).toArray 5 fr)) (some ⟨w.heap.size, 0, none⟩) zs := by
    refine ⟨hz, .inr ⟨w.heap.size, 0, rfl, fun i hi => ?_⟩⟩
    rw [Joins.cell_of_block hr, Nat.zero_add, List.getElem?_toArray, O.cellsOf_get zs i hi]
  refine (read_bad f1 f2 (hE.below hB) hl (fun x hx => ?_) (by omega) (Nat.le_refl _) hb).mono ?_
  · cases hx
    simp
  · rintro e w' ⟨h1, h2⟩
    exact ⟨hB.trans (h1.mono hB.size), h2⟩

theorem same_E (w : World) (ta : Option Addr) (tc : Nat) (da : Option Addr) (dc : Nat) (ea : Option Addr) (ec : Nat) (ga : Option Addr) (gc : Nat) : Calls Tryz.prog 18 #[.agg #[.slice ta 0 tc, .slice da 0 dc, .slice ea 0 ec, .slice ga 0 gc], .agg uZ] w fun e w' => e = .returned (.bool true) ∧ Below w.heap.size w w' :=
  sameUnit_any ta da ea ga none none none none tc dc ec gc 0 0 0 0 uE heldU_E w ⟨.inl rfl, .inl rfl, .inl rfl, .inl rfl⟩ (unitIn_E w)

set_option maxHeartbeats 8000000 in
theorem known_is (w : World) (hE : Env w) : Calls Tryz.prog 12 #[] w fun e w' => e = .returned (.bool true) ∧ Below w.heap.size w w' := by
  have h9 := Hid.intro (write_E w hE)
  have hEH := Hid.intro hE
  have hlit : Hid (∀ w1, Env w1 → Calls Tryz.prog 10 #[.slice (some ⟨w1.heap.size, 0, none⟩) 4 4] (w1.alloc (.cells #[.int .u8 83, .int .u8 80, .int .u8 65, .int .u8 77] 5 (4, 5))) fun e w' => Below w1.heap.size w1 w' ∧ ∃ q, e = .returned (.tuple #[.agg uZ, .iface 66 (.pointer (some ⟨q, 0, none⟩))]) ∧ w'.heap[q]? = some (.cells #[.int .i64 3, .int .i64 15] 68 (0, 0))) := fun w1 h1 => read_lit w1 [83, 80, 65, 77] (4, 5) 3 15 h1 (by intro z hz; simp at hz; omega) (by decide) (by decide +kernel)
  have hrf : Hid (∀ w1 q, Env w1 → w1.heap[q]? = some (.cells #[.int .i64 3, .int .i64 15] 68 (0, 0)) → Calls Tryz.prog 11 #[.iface 66 (.pointer (some ⟨q, 0, none⟩)), .agg #[.int .i64 3, .int .i64 15]] w1 fun e w' => e = .returned (.bool true) ∧ Below w1.heap.size w1 w') := fun w1 q h1 h2 => refused_any q 3 15 (by decide) (by decide) (by decide) w1 h1.pow h2
  have hn28 := nil_eq28
  clear hE
  go_enter Tryz.func12, Tryz.ntmps12
  go_upto_region 4 with (first
    | (go_at_call 9; (with_reducible refine (h9.out).mono ?_); rintro e w1 ⟨b1, a1, c1, rfl, g1⟩; have hE1 := Hid.intro (hEH.out.below b1); obtain ⟨l1, l2, l3⟩ := got_lies g1 z13_bytes; have h10 := Hid.intro (read_E w1 a1 c1 hE1.out l1 l2 l3); have hcv := Hid.intro (fun W (hW : Below w1.heap.size w1 W) => (conv_lies (m := 13) (c := c1) rfl (O.Lies.below l1 hW))); replace b1 := Hid.intro b1; clear h9 l1 l2 g1)
    | (go_at_call 10; (with_reducible refine (h10.out).mono ?_); rintro e w2 ⟨b2, ta, tc, da, dc, ea, ec, ga, gc, rfl⟩; have bA := b2.trans ((below_alloc w2 (.cells #[.slice ta 0 tc, .slice da 0 dc, .slice ea 0 ec, .slice ga 0 gc] 30)).mono b2.size); have hu2 := heap_alloc_new w2 (.cells #[.slice ta 0 tc, .slice da 0 dc, .slice ea 0 ec, .slice ga 0 gc] 30); have hsA : (w2.alloc (.cells #[.slice ta 0 tc, .slice da 0 dc, .slice ea 0 ec, .slice ga 0 gc] 30)).heap.size = w2.heap.size + 1 := (by simp); have h10b := hlit.out _ (hE1.out.below bA); rw [hsA] at h10b; replace hsA := Hid.intro hsA; replace h10b := Hid.intro h10b; have k22 := Joins.run_convert_bytes_const_at (P := Tryz.prog) (w2.alloc (.cells #[.slice ta 0 tc, .slice da 0 dc, .slice ea 0 ec, .slice ga 0 gc] 30)) 22 5 #[.int .u8 83, .int .u8 80, .int .u8 65, .int .u8 77] 4 4 (w2.heap.size + 1) (by simp) Tryz.underlying22 Tryz.underlying5; replace bA := Hid.intro bA; replace hu2 := Hid.intro hu2; clear h10 b2)
    | (go_at_call 10; (with_reducible refine (h10b.out).mono ?_); rintro e w3 ⟨b3, q, rfl, hq⟩; rw [← hsA.out] at b3; have bB := b3.trans ((below_alloc w3 (.cells uZ 30)).mono b3.size); have hu3 := (bB.block w2.heap.size (by simp)).trans hu2.out; have hq3 := ((below_alloc w3 (.cells uZ 30)).block q (blk_lt hq)).trans hq; have bC := bA.out.trans (bB.mono bA.out.size); have kc := hcv.out _ bC; rw [show strOfNums z13 = ⟨#[83, 80, 65, 78, 1, 0, 0, 0, 0, 0, 0, 0, 0]⟩ from rfl] at kc; have hE3 := Hid.intro (hE1.out.below bC); have bD := Hid.intro (b1.out.trans (bC.mono b1.out.size)); obtain ⟨y0, y1, y2, y3⟩ := four_read hu3; replace hq3 := Hid.intro hq3; clear h10b b3 hq bA bB bC hu2 hu3 hcv k22))
  all_goals first | omega | skip
  generalize w3.alloc (.cells uZ 30) = w4 at *
  have h18 := Hid.intro (same_E w4 ta tc da dc ea ec ga gc)
  have h11 : Hid (∀ w5, Below w4.heap.size w4 w5 → _) := fun w5 (b5 : Below w4.heap.size w4 w5) => hrf.out w5 q (hE3.out.below b5) ((b5.block q (blk_lt hq3.out)).trans hq3.out)
  go_wp2_with (first
    | (go_at_call 18; (with_reducible refine (h18.out).mono ?_); rintro e w5 ⟨rfl, b5⟩; replace b5 := Hid.intro b5)
    | (go_at_call 11; (with_reducible refine (h11.out _ b5.out).mono ?_); rintro e w6 ⟨rfl, b6⟩; replace b6 := Hid.intro b6))
  all_goals first | omega | skip
  go_ret
  exact ⟨rfl, bD.out.trans ((b5.out.trans (b6.out.mono b5.out.size)).mono bD.out.size)⟩
end Go.Proofs.YtmndccbeddaphaaGreatDoor
