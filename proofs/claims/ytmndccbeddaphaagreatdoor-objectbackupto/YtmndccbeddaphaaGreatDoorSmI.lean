/- The law's few; spandrelkeep's SameItem, SameItems. -/
import Derived.Test.YtmndccbeddaphaaGreatDoorUGl
import Derived.Test.YtmndccbeddaphaaGreatDoorFin2
import Derived.Test.YtmndccbeddaphaaGreatDoorTok3
import Derived.Lib.IndexLaws
import Derived.Test.YtmndccbeddaphaaGreatDoorSpec2
import Derived.Test.YtmndccbeddaphaaGreatDoorNum3
import Derived.Test.YtmndccbeddaphaaGreatDoorLinM
import Derived.Test.YtmndccbeddaphaaGreatDoorConcat
import Derived.RangeFuncNested
import Derived.RangeFuncBound
import Derived.RangeFuncCalls
import Derived.RangeFuncLeaves
import Derived.Shelf.Abstract
import Derived.Shelf.RegionOpen
import Derived.WalkKit
import Derived.OwnWalkIn
import Derived.TacticsInMore
import Derived.LoopNIn
import Derived.LoopIn
import Derived.BigQuiet
import Derived.WalkSmall
import Derived.Deep.QuietTactic
import Derived.WalkSpells
import Derived.Handy
import Derived.RangeFuncFrom
import Derived.Test.YtmndccbeddaphaaGreatDoorErn
import Derived.Test.YtmndccbeddaphaaGreatDoorIt9
import Derived.Deep.RegionLaw
import Derived.Deep.DeepCutAuto
import Derived.Deep.DeepAppendWide
import Derived.Laws.Cover1
import Derived.Test.YtmndccbeddaphaaGreatDoorSrt
import Derived.Deep.RegionHeld3
import Derived.Test.YtmndccbeddaphaaGreatDoorRfe
import Derived.Test.YtmndccbeddaphaaGreatDoorT1
/- unit's Right and Spans. -/
namespace Go.Proofs.YtmndccbeddaphaaGreatDoor
open Go.ChangeShapes Go.WideShapes Go.ChangeAt Go.RowKit Go.Sort
set_option linter.unusedVariables false
set_option maxRecDepth 100000

/-- is a unit right, but for how many there are? -/
structure RightU (u : UVal) : Prop where
  text : (u.text.all fun x => okI x 0) = true
  data : (u.data.all fun x => okI x 1) = true
  equs : u.equs.all okE = true
  once : ¬ Twice (sortS u.names)
  globs : GlobOk u.globs (sortS u.names)

/-- what Right answers -/
def RightN (u : UVal) (n : Int) : Prop := (8192 < u.text.length + u.data.length ∨ 8192 < u.equs.length) ∧ n = 4 ∨ ¬ (8192 < u.text.length + u.data.length ∨ 8192 < u.equs.length) ∧ (RightU u ∧ n = 0 ∨ ¬ RightU u ∧ n = 31)

set_option maxHeartbeats 8000000 in
theorem unitRight_any (ta : Option Addr) (tc : Nat) (da : Option Addr) (dc : Nat) (ea : Option Addr) (ec : Nat) (ga : Option Addr) (gc : Nat) (u : UVal) (hu : HeldU u) (w : World) (hT : Tab w) (hI : UnitIn w ta da ea ga u) :
    Calls Tryz.prog 27 #[.agg (unitV ta tc da dc ea ec ga gc u)] w fun e w' => (∃ n : Int, e = .returned (.int .i64 n) ∧ RightN u n) ∧ Below w.heap.size w w' := by
  have hB0 : Below w.heap.size w (w.alloc (.cells (unitV ta tc da dc ea ec ga gc u) 30)) := below_alloc w _
  have hbx := heap_alloc_new w (.cells (unitV ta tc da dc ea ec ga gc u) 30)
  have hws : (w.alloc (.cells (unitV ta tc da dc ea ec ga gc u) 30)).heap.size = w.heap.size + 1 := by simp
  have hcells : Hid (∀ w1, Below (w.alloc (.cells (unitV ta tc da dc ea ec ga gc u) 30)).heap.size (w.alloc (.cells (unitV ta tc da dc ea ec ga gc u) 30)) w1 → w1.cell? ⟨w.heap.size, 0, none⟩ = some (.slice ta u.text.length tc) ∧ w1.cell? ⟨w.heap.size, 1, none⟩ = some (.slice da u.data.length dc) ∧ w1.cell? ⟨w.heap.size, 2, none⟩ = some (.slice ea u.equs.length ec) ∧ w1.cell? ⟨w.heap.size, 3, none⟩ = some (.slice ga u.globs.length gc)) := fun w1 h1 => four_read ((h1.block w.heap.size (by omega)).trans hbx)
  obtain ⟨c0, c1, c2, c3⟩ := four_read hbx
  have hI0 := Hid.intro (hI.below hB0)
  have hT0 := Hid.intro (hT.alloc (.cells (unitV ta tc da dc ea ec ga gc u) 30))
  have hh1 := hu.text.1
  have hh2 := hu.data.1
  have hh3 := hu.equs.1
  have q1 : wrap64 ((u.text.length : Int) + (u.data.length : Int)) = (u.text.length : Int) + (u.data.length : Int) := by unfold wrap64; omega
  have hB0H := Hid.intro hB0
  clear hbx hB0 hT
  by_cases hm1 : 8192 < u.text.length + u.data.length
  · have p1 : decide ((8192 : Int) < (u.text.length : Int) + (u.data.length : Int)) = true := by simp; omega
    go_enter Tryz.func27, Tryz.ntmps27
    go_wp2
    all_goals first | omega | skip
    go_ret
    exact ⟨⟨4, rfl, .inl ⟨.inl hm1, rfl⟩⟩, hB0H.out⟩
  have p1 : decide ((8192 : Int) < (u.text.length : Int) + (u.data.length : Int)) = false := by simp; omega
  by_cases hm2 : 8192 < u.equs.length
  · have p2 : decide ((8192 : Int) < (u.equs.length : Int)) = true := by simp; omega
    go_enter Tryz.func27, Tryz.ntmps27
    go_wp2
    all_goals first | omega | skip
    go_ret
    exact ⟨⟨4, rfl, .inl ⟨.inr hm2, rfl⟩⟩, hB0H.out⟩
  have p2 : decide ((8192 : Int) < (u.equs.length : Int)) = false := by simp; omega
  have hno : Hid (¬ (8192 < u.text.length + u.data.length ∨ 8192 < u.equs.length)) := by rintro (h | h); exact hm1 h; exact hm2 h
  have r1 := Hid.intro (rightItems_any ta tc u.text 0 (.inl rfl) hu.text.1 hu.text.2 _ hT0.out hI0.out.text)
  have r2 := Hid.intro (fun w1 (hb : Below (w.alloc (.cells (unitV ta tc da dc ea ec ga gc u) 30)).heap.size (w.alloc (.cells (unitV ta tc da dc ea ec ga gc u) 30)) w1) => rightItems_any da dc u.data 1 (.inr rfl) hu.data.1 hu.data.2 w1 (hT0.out.below hb hT0.out.size) (hI0.out.data.below hb))
  have r3 := Hid.intro (fun w1 (hb : Below (w.alloc (.cells (unitV ta tc da dc ea ec ga gc u) 30)).heap.size (w.alloc (.cells (unitV ta tc da dc ea ec ga gc u) 30)) w1) => rightEqus_any ea ec u.equs hu.equs.1 hu.equs.2 w1 (hI0.out.equs.below hb))
  have r4 := Hid.intro (fun w1 (hb : Below (w.alloc (.cells (unitV ta tc da dc ea ec ga gc u) 30)).heap.size (w.alloc (.cells (unitV ta tc da dc ea ec ga gc u) 30)) w1) => sortedNames_any ta tc da dc ea ec ga gc u hu w1 (hI0.out.below hb))
  have hnl : (sortS u.names).length ≤ 9000000 := by
    rw [sortS_len]
    have h1 := labN_len u.text
    have h2 := labN_len u.data
    unfold UVal.names
    simp
    omega
  have r5 := Hid.intro (fun a' c' w1 lo (ho : w1.ownsRow lo 9 1 (.slice a' (sortS u.names).length c') (sortS u.names).length ((sortS u.names).map encStr)) => hasTwice_any a' c' (sortS u.names) hnl w1 (own_stIn ho))
  have hg9 : u.globs.length ≤ 9000000 := by have := hu.globs; omega
  have r6 := Hid.intro (fun a' c' w2 (hb : Below (w.alloc (.cells (unitV ta tc da dc ea ec ga gc u) 30)).heap.size (w.alloc (.cells (unitV ta tc da dc ea ec ga gc u) 30)) w2) (hS : StIn w2 a' (sortS u.names)) => rightGlobals_any ga gc u.globs a' c' (sortS u.names) hg9 hnl (sortS_rise _) w2 (hI0.out.globs.below hb) hS)
  clear hm1 hm2 hI hu hnl hg9
  cases hTb : u.text.all fun x => okI x 0 with
  | false =>
    rw [hTb] at r1
    have hbad : Hid (¬ RightU u) := fun h => by have := h.text; rw [hTb] at this; cases this
    clear hTb
    go_enter Tryz.func27, Tryz.ntmps27
    go_wp2_with (first | (go_at_call 59; (with_reducible refine (r1.out).mono ?_); rintro e w1 ⟨rfl, hb1⟩; have hB1 := Hid.intro hb1; obtain ⟨x10, x11, x12, x13⟩ := hcells.out w1 hB1.out; clear hb1))
    all_goals first | omega | skip
    go_ret
    exact ⟨⟨31, rfl, .inr ⟨hno.out, .inr ⟨hbad.out, rfl⟩⟩⟩, hB0H.out.trans (hB1.out.mono hB0H.out.size)⟩
  | true =>
  rw [hTb] at r1
  cases hDb : u.data.all fun x => okI x 1 with
  | false =>
    rw [hDb] at r2
    have hbad : Hid (¬ RightU u) := fun h => by have := h.data; rw [hDb] at this; cases this
    clear hTb hDb
    go_enter Tryz.func27, Tryz.ntmps27
    go_wp2_with (first | (go_at_call 59; (with_reducible refine (r1.out).mono ?_); rintro e w1 ⟨rfl, hb1⟩; have hB1 := Hid.intro hb1; obtain ⟨x10, x11, x12, x13⟩ := hcells.out w1 hB1.out; clear hb1) | (go_at_call 59; (with_reducible refine (r2.out w1 hB1.out).mono ?_); rintro e w2 ⟨rfl, hb2⟩; have hB2 := Hid.intro (hB1.out.trans (hb2.mono hB1.out.size)); obtain ⟨x20, x21, x22, x23⟩ := hcells.out w2 hB2.out; clear hb2))
    all_goals first | omega | skip
    go_ret
    exact ⟨⟨31, rfl, .inr ⟨hno.out, .inr ⟨hbad.out, rfl⟩⟩⟩, hB0H.out.trans (hB2.out.mono hB0H.out.size)⟩
  | true =>
  rw [hDb] at r2
  cases hEb : u.equs.all okE with
  | false =>
    rw [hEb] at r3
    have hbad : Hid (¬ RightU u) := fun h => by have := h.equs; rw [hEb] at this; cases this
    clear hTb hDb hEb
    go_enter Tryz.func27, Tryz.ntmps27
    go_wp2_with (first | (go_at_call 59; (with_reducible refine (r1.out).mono ?_); rintro e w1 ⟨rfl, hb1⟩; have hB1 := Hid.intro hb1; obtain ⟨x10, x11, x12, x13⟩ := hcells.out w1 hB1.out; clear hb1) | (go_at_call 59; (with_reducible refine (r2.out w1 hB1.out).mono ?_); rintro e w2 ⟨rfl, hb2⟩; have hB2 := Hid.intro (hB1.out.trans (hb2.mono hB1.out.size)); obtain ⟨x20, x21, x22, x23⟩ := hcells.out w2 hB2.out; clear hb2) | (go_at_call 60; (with_reducible refine (r3.out w2 hB2.out).mono ?_); rintro e w3 ⟨rfl, hb3⟩; have hB3 := Hid.intro (hB2.out.trans (hb3.mono hB2.out.size)); obtain ⟨x30, x31, x32, x33⟩ := hcells.out w3 hB3.out; clear hb3))
    all_goals first | omega | skip
    go_ret
    exact ⟨⟨31, rfl, .inr ⟨hno.out, .inr ⟨hbad.out, rfl⟩⟩⟩, hB0H.out.trans (hB3.out.mono hB0H.out.size)⟩
  | true =>
  rw [hEb] at r3
  by_cases hTw : Twice (sortS u.names)
  · have hbad : Hid (¬ RightU u) := fun h => h.once hTw
    replace r5 : Hid (∀ a' c' w1 lo, w1.ownsRow lo 9 1 (.slice a' (sortS u.names).length c') (sortS u.names).length ((sortS u.names).map encStr) → Calls Tryz.prog 62 #[.slice a' (sortS u.names).length c'] w1 fun e w' => e = .returned (.bool true) ∧ Below w1.heap.size w1 w') := fun a' c' w1 lo ho => (r5.out a' c' w1 lo ho).mono fun e w' ⟨⟨bv, h1, h2⟩, h3⟩ => ⟨by rw [h1, show bv = true from h2.2 hTw], h3⟩
    clear hTb hDb hEb hTw
    go_enter Tryz.func27, Tryz.ntmps27
    go_wp2_with (first | (go_at_call 59; (with_reducible refine (r1.out).mono ?_); rintro e w1 ⟨rfl, hb1⟩; have hB1 := Hid.intro hb1; obtain ⟨x10, x11, x12, x13⟩ := hcells.out w1 hB1.out; clear hb1) | (go_at_call 59; (with_reducible refine (r2.out w1 hB1.out).mono ?_); rintro e w2 ⟨rfl, hb2⟩; have hB2 := Hid.intro (hB1.out.trans (hb2.mono hB1.out.size)); obtain ⟨x20, x21, x22, x23⟩ := hcells.out w2 hB2.out; clear hb2) | (go_at_call 60; (with_reducible refine (r3.out w2 hB2.out).mono ?_); rintro e w3 ⟨rfl, hb3⟩; have hB3 := Hid.intro (hB2.out.trans (hb3.mono hB2.out.size)); obtain ⟨x30, x31, x32, x33⟩ := hcells.out w3 hB3.out; clear hb3) | (go_at_call 61; (with_reducible refine (r4.out w3 hB3.out).mono ?_); rintro e w4 ⟨a4, c4, rfl, hN4⟩; have hB4 := Hid.intro (hB3.out.trans (hN4.bel.mono hB3.out.size)); obtain ⟨x40, x41, x42, x43⟩ := hcells.out w4 hB4.out; replace hN4 := Hid.intro hN4) | (go_at_call 62; (with_reducible refine (r5.out a4 c4 w4 _ hN4.out.own).mono ?_); rintro e w5 ⟨rfl, hb5⟩; have hB5 := Hid.intro (hB4.out.trans (hb5.mono hB4.out.size)); obtain ⟨x50, x51, x52, x53⟩ := hcells.out w5 hB5.out; have hS5 := Hid.intro ((own_stIn hN4.out.own).below hb5); clear hb5))
    all_goals first | omega | skip
    go_ret
    exact ⟨⟨31, rfl, .inr ⟨hno.out, .inr ⟨hbad.out, rfl⟩⟩⟩, hB0H.out.trans (hB5.out.mono hB0H.out.size)⟩
  replace r5 : Hid (∀ a' c' w1 lo, w1.ownsRow lo 9 1 (.slice a' (sortS u.names).length c') (sortS u.names).length ((sortS u.names).map encStr) → Calls Tryz.prog 62 #[.slice a' (sortS u.names).length c'] w1 fun e w' => e = .returned (.bool false) ∧ Below w1.heap.size w1 w') := fun a' c' w1 lo ho => (r5.out a' c' w1 lo ho).mono fun e w' ⟨⟨bv, h1, h2⟩, h3⟩ => ⟨by rw [h1, show bv = false from Bool.eq_false_iff.2 fun h => hTw (h2.1 h)], h3⟩
  by_cases hGl : GlobOk u.globs (sortS u.names)
  · have hgood : Hid (RightU u) := ⟨hTb, hDb, hEb, hTw, hGl⟩
    replace r6 : Hid (∀ a' c' w2, Below (w.alloc (.cells (unitV ta tc da dc ea ec ga gc u) 30)).heap.size (w.alloc (.cells (unitV ta tc da dc ea ec ga gc u) 30)) w2 → StIn w2 a' (sortS u.names) → Calls Tryz.prog 63 #[.slice ga u.globs.length gc, .slice a' (sortS u.names).length c'] w2 fun e w' => e = .returned (.bool true) ∧ Below w2.heap.size w2 w') := fun a' c' w2 hb hS => (r6.out a' c' w2 hb hS).mono fun e w' ⟨⟨bv, h1, h2⟩, h3⟩ => ⟨by rw [h1, show bv = true from h2.2 hGl], h3⟩
    clear hTb hDb hEb hTw hGl
    go_enter Tryz.func27, Tryz.ntmps27
    go_wp2_with (first | (go_at_call 59; (with_reducible refine (r1.out).mono ?_); rintro e w1 ⟨rfl, hb1⟩; have hB1 := Hid.intro hb1; obtain ⟨x10, x11, x12, x13⟩ := hcells.out w1 hB1.out; clear hb1) | (go_at_call 59; (with_reducible refine (r2.out w1 hB1.out).mono ?_); rintro e w2 ⟨rfl, hb2⟩; have hB2 := Hid.intro (hB1.out.trans (hb2.mono hB1.out.size)); obtain ⟨x20, x21, x22, x23⟩ := hcells.out w2 hB2.out; clear hb2) | (go_at_call 60; (with_reducible refine (r3.out w2 hB2.out).mono ?_); rintro e w3 ⟨rfl, hb3⟩; have hB3 := Hid.intro (hB2.out.trans (hb3.mono hB2.out.size)); obtain ⟨x30, x31, x32, x33⟩ := hcells.out w3 hB3.out; clear hb3) | (go_at_call 61; (with_reducible refine (r4.out w3 hB3.out).mono ?_); rintro e w4 ⟨a4, c4, rfl, hN4⟩; have hB4 := Hid.intro (hB3.out.trans (hN4.bel.mono hB3.out.size)); obtain ⟨x40, x41, x42, x43⟩ := hcells.out w4 hB4.out; replace hN4 := Hid.intro hN4) | (go_at_call 62; (with_reducible refine (r5.out a4 c4 w4 _ hN4.out.own).mono ?_); rintro e w5 ⟨rfl, hb5⟩; have hB5 := Hid.intro (hB4.out.trans (hb5.mono hB4.out.size)); obtain ⟨x50, x51, x52, x53⟩ := hcells.out w5 hB5.out; have hS5 := Hid.intro ((own_stIn hN4.out.own).below hb5); clear hb5) | (go_at_call 63; (with_reducible refine (r6.out a4 c4 w5 hB5.out hS5.out).mono ?_); rintro e w6 ⟨rfl, hb6⟩; have hB6 := Hid.intro (hB5.out.trans (hb6.mono hB5.out.size)); clear hb6))
    all_goals first | omega | skip
    go_ret
    exact ⟨⟨0, rfl, .inr ⟨hno.out, .inl ⟨hgood.out, rfl⟩⟩⟩, hB0H.out.trans (hB6.out.mono hB0H.out.size)⟩
  · have hbad : Hid (¬ RightU u) := fun h => hGl h.globs
    replace r6 : Hid (∀ a' c' w2, Below (w.alloc (.cells (unitV ta tc da dc ea ec ga gc u) 30)).heap.size (w.alloc (.cells (unitV ta tc da dc ea ec ga gc u) 30)) w2 → StIn w2 a' (sortS u.names) → Calls Tryz.prog 63 #[.slice ga u.globs.length gc, .slice a' (sortS u.names).length c'] w2 fun e w' => e = .returned (.bool false) ∧ Below w2.heap.size w2 w') := fun a' c' w2 hb hS => (r6.out a' c' w2 hb hS).mono fun e w' ⟨⟨bv, h1, h2⟩, h3⟩ => ⟨by rw [h1, show bv = false from Bool.eq_false_iff.2 fun h => hGl (h2.1 h)], h3⟩
    clear hTb hDb hEb hTw hGl
    go_enter Tryz.func27, Tryz.ntmps27
    go_wp2_with (first | (go_at_call 59; (with_reducible refine (r1.out).mono ?_); rintro e w1 ⟨rfl, hb1⟩; have hB1 := Hid.intro hb1; obtain ⟨x10, x11, x12, x13⟩ := hcells.out w1 hB1.out; clear hb1) | (go_at_call 59; (with_reducible refine (r2.out w1 hB1.out).mono ?_); rintro e w2 ⟨rfl, hb2⟩; have hB2 := Hid.intro (hB1.out.trans (hb2.mono hB1.out.size)); obtain ⟨x20, x21, x22, x23⟩ := hcells.out w2 hB2.out; clear hb2) | (go_at_call 60; (with_reducible refine (r3.out w2 hB2.out).mono ?_); rintro e w3 ⟨rfl, hb3⟩; have hB3 := Hid.intro (hB2.out.trans (hb3.mono hB2.out.size)); obtain ⟨x30, x31, x32, x33⟩ := hcells.out w3 hB3.out; clear hb3) | (go_at_call 61; (with_reducible refine (r4.out w3 hB3.out).mono ?_); rintro e w4 ⟨a4, c4, rfl, hN4⟩; have hB4 := Hid.intro (hB3.out.trans (hN4.bel.mono hB3.out.size)); obtain ⟨x40, x41, x42, x43⟩ := hcells.out w4 hB4.out; replace hN4 := Hid.intro hN4) | (go_at_call 62; (with_reducible refine (r5.out a4 c4 w4 _ hN4.out.own).mono ?_); rintro e w5 ⟨rfl, hb5⟩; have hB5 := Hid.intro (hB4.out.trans (hb5.mono hB4.out.size)); obtain ⟨x50, x51, x52, x53⟩ := hcells.out w5 hB5.out; have hS5 := Hid.intro ((own_stIn hN4.out.own).below hb5); clear hb5) | (go_at_call 63; (with_reducible refine (r6.out a4 c4 w5 hB5.out hS5.out).mono ?_); rintro e w6 ⟨rfl, hb6⟩; have hB6 := Hid.intro (hB5.out.trans (hb6.mono hB5.out.size)); clear hb6))
    all_goals first | omega | skip
    go_ret
    exact ⟨⟨31, rfl, .inr ⟨hno.out, .inr ⟨hbad.out, rfl⟩⟩⟩, hB0H.out.trans (hB6.out.mono hB0H.out.size)⟩

theorem rightN_one {u : UVal} {n m : Int} (h : RightN u n) (h' : RightN u m) : n = m := by
  unfold RightN at h h'
  by_cases hc : 8192 < u.text.length + u.data.length ∨ 8192 < u.equs.length
  · rcases h with ⟨_, rfl⟩ | ⟨h1, _⟩
    · rcases h' with ⟨_, rfl⟩ | ⟨h1, _⟩
      · rfl
      · exact absurd hc h1
    · exact absurd hc h1
  · rcases h with ⟨h1, _⟩ | ⟨_, h⟩
    · exact absurd h1 hc
    · rcases h' with ⟨h1, _⟩ | ⟨_, h'⟩
      · exact absurd h1 hc
      · by_cases hr : RightU u
        · rcases h with ⟨_, rfl⟩ | ⟨h1, _⟩
          · rcases h' with ⟨_, rfl⟩ | ⟨h1, _⟩
            · rfl
            · exact absurd hr h1
          · exact absurd hr h1
        · rcases h with ⟨h1, _⟩ | ⟨_, rfl⟩
          · exact absurd h1 hr
          · rcases h' with ⟨h1, _⟩ | ⟨_, rfl⟩
            · exact absurd h1 hr
            · rfl

/-- Right's answer, by its number -/
theorem unitRight_is (ta : Option Addr) (tc : Nat) (da : Option Addr) (dc : Nat) (ea : Option Addr) (ec : Nat) (ga : Option Addr) (gc : Nat) (u : UVal) (hu : HeldU u) (w : World) (hT : Tab w) (hI : UnitIn w ta da ea ga u) (n : Int) (hn : RightN u n) :
    Calls Tryz.prog 27 #[.agg (unitV ta tc da dc ea ec ga gc u)] w fun e w' => e = .returned (.int .i64 n) ∧ Below w.heap.size w w' :=
  (unitRight_any ta tc da dc ea ec ga gc u hu w hT hI).mono fun e w' ⟨⟨m, h1, h2⟩, h3⟩ => ⟨by rw [h1, rightN_one h2 hn], h3⟩

end Go.Proofs.YtmndccbeddaphaaGreatDoor
namespace Go.Proofs.YtmndccbeddaphaaGreatDoor
open Go.ChangeShapes Go.WideShapes Go.ChangeAt Go.RowKit Go.Sort
set_option linter.unusedVariables false
set_option maxRecDepth 100000

theorem sameL_self (xs : List Tm) (k : Int) : sameL xs xs k k = true := by simp [sameL]

theorem itIn_at {w : World} {a : Option Addr} {l : List Itm} (h : ItIn w a l) {i : Nat} {x : Itm} (hi : l[i]? = some x) : ∃ g o, a = some ⟨g, o, none⟩ ∧ g < w.heap.size ∧ ∃ va vc, ItAt w g (o + i * 10) x va x.e.terms.length vc ∧ TmLies w va x.e.terms := by
  rcases h with h | ⟨g, o, h1, h2, h3⟩
  · subst h; cases hi
  · exact ⟨g, o, h1, h2, h3 i x hi⟩

set_option maxHeartbeats 1000000 in
theorem sameItem_any (x : Itm) (va vb : Option Addr) (vc vd : Nat) (w : World) (h1 : TmLies w va x.e.terms) (h2 : TmLies w vb x.e.terms) (hm : x.e.terms.length ≤ 9000000) :
    Calls Tryz.prog 91 #[.agg (itmCells x (.slice va x.e.terms.length vc)), .agg (itmCells x (.slice vb x.e.terms.length vd))] w fun e w' => e = .returned (.bool true) ∧ Below w.heap.size w w' := by
  have h31 : Hid (∀ w1, Below w.heap.size w w1 → Calls Tryz.prog 92 #[linV (.slice va x.e.terms.length vc) x.e.const, linV (.slice vb x.e.terms.length vd) x.e.const] w1 fun e w' => e = .returned (.bool true) ∧ Below w1.heap.size w1 w') := fun w1 hb => by
    have := refSame_any va vb vc vd x.e.terms x.e.terms x.e.const x.e.const w1 (h1.below hb (Nat.le_refl _)) (h2.below hb (Nat.le_refl _)) hm hm
    rwa [sameL_self] at this
  clear h1 h2
  generalize x.e.terms.length = n at h31 hm ⊢
  have hb2 : Hid (Below w.heap.size w ((w.alloc (.cells (itmCells x (.slice va n vc)) 86)).alloc (.cells (itmCells x (.slice vb n vd)) 86))) := (below_alloc w _).alloc (by simp) _
  have ht := Hid.intro (two_rows' w (itmCells x (.slice va n vc)) (itmCells x (.slice vb n vd)) 86 86)
  go_enter Tryz.func91, Tryz.ntmps91
  go_wp2_with (go_at_call 92; (with_reducible refine (h31.out _ hb2.out).mono ?_); rintro e w2 ⟨rfl, hb3⟩; have z9 : w2.cell? ⟨w.heap.size, 9, none⟩ = some (.int .i64 x.n) := (cell_blockT (show w2.heap[w.heap.size]? = some (.cells (itmCells x (.slice va n vc)) 86 (0, 0)) from by rw [hb3.block _ (by simp; omega)]; exact ht.out.1) 9).trans rfl; have y9 : w2.cell? ⟨w.heap.size + 1, 9, none⟩ = some (.int .i64 x.n) := (cell_blockT (show w2.heap[w.heap.size + 1]? = some (.cells (itmCells x (.slice vb n vd)) 86 (0, 0)) from by rw [hb3.block _ (by simp)]; exact ht.out.2) 9).trans rfl)
  all_goals first | omega | skip
  go_ret
  exact ⟨rfl, hb2.out.trans (hb3.mono (by simp; omega))⟩

set_option maxHeartbeats 2000000 in
theorem sameItems_any (l : List Itm) (hm : l.length ≤ 1100000) (ht : ∀ x ∈ l, x.e.terms.length ≤ 9000000) (ai bi : Option Addr) (ni ci di : Nat) (w : World) (h1 : ItIn w ai l) (h2 : ItIn w bi l) (hn : Hid (ni = l.length)) :
    Calls Tryz.prog 47 #[.slice ai ni ci, .slice bi ni di] w fun e w' => e = .returned (.bool true) ∧ Below w.heap.size w w' := by
  have hnm : ni ≤ 1100000 := by rw [hn.out]; exact hm
  clear hm
  replace h1 := Hid.intro h1
  replace h2 := Hid.intro h2
  go_enter Tryz.func47, Tryz.ntmps47
  go_wp2
  all_goals first | omega | skip
  go_loopw [5] (fun v5 wr => ∃ i : Nat, i ≤ ni ∧ v5 = .int .i64 (i : Int) ∧ Hid (Below w.heap.size w wr)) (fun v5 wr => ni - (intOf v5).toNat)
  case atStart => exact ⟨0, by omega, rfl, Hid.intro (Below.refl _ _)⟩
  case round =>
    obtain ⟨i, hi, rfl, hB⟩ := hrel
    by_cases hlt : i < ni
    · obtain ⟨x, hx⟩ : ∃ x, l[i]? = some x := ⟨l[i]'(by rw [← hn.out]; exact hlt), List.getElem?_eq_getElem _⟩
      obtain ⟨g, o, hg, hgl, xa, xc, hI, hTm⟩ := itIn_at h1.out hx
      obtain ⟨g', o', hg', hgl', ya, yc, hJ, hTn⟩ := itIn_at h2.out hx
      subst hg
      subst hg'
      have hP : Hid (∀ p : BelowOf wr, Below w.heap.size w p.wd) := fun p => hB.out.trans (p.h.mono hB.out.size)
      have h56 : Hid (∀ p : BelowOf wr, Calls Tryz.prog 91 #[.agg (itmCells x (.slice xa x.e.terms.length xc)), .agg (itmCells x (.slice ya x.e.terms.length yc))] p.wd fun e w' => e = .returned (.bool true) ∧ Below p.wd.heap.size p.wd w') := fun p => sameItem_any x xa ya xc yc p.wd (hTm.below (hP.out p) (Nat.le_refl _)) (hTn.below (hP.out p) (Nat.le_refl _)) (ht x (List.mem_of_getElem? hx))
      have cI := fun p : BelowOf wr => hI.below (hP.out p) hgl
      have cJ := fun p : BelowOf wr => hJ.below (hP.out p) hgl'
      generalize x.e.terms.length = xn at h56 cI cJ
      have c0 := fun p => (cI p).kind
      have c1 := fun p => (cI p).name
      have c2 := fun p => (cI p).op
      have c3 := fun p => (cI p).a
      have c4 := fun p => (cI p).b
      have c5 := fun p => (cI p).m
      have c6 := fun p => (cI p).form
      have c7 := fun p => (cI p).terms
      have c8 := fun p => (cI p).const
      have c9 := fun p => (cI p).n
      have d0 := fun p => (cJ p).kind
      have d1 := fun p => (cJ p).name
      have d2 := fun p => (cJ p).op
      have d3 := fun p => (cJ p).a
      have d4 := fun p => (cJ p).b
      have d5 := fun p => (cJ p).m
      have d6 := fun p => (cJ p).form
      have d7 := fun p => (cJ p).terms
      have d8 := fun p => (cJ p).const
      have d9 := fun p => (cJ p).n
      clear cI cJ hI hJ hTm hTn hx hgl hgl'
      have hlt2 : (i : Int) < (ni : Int) := by omega
      have i0 : (0 : Int) ≤ (i : Int) := by omega
      go_wp2_with fail
      all_goals first | omega | skip
      refine wp_region_quiet_below (by kernel_rfl) (by kernel_rfl) ?_
      repeat (first | (with_reducible refine wpQuiet_skip (by with_unfolding_all rfl) ?_; simp only [Act.put, List.setIfInBounds_toArray, List.set_cons_zero, List.set_cons_succ]) | (with_reducible refine wpQuiet_step (fun K hK => ?_); go_simp; first | (with_reducible refine hK _ ?_; clear hK K) | (apply Exists.intro; refine ⟨fun p => ?_, hK _ ?_⟩; (go_at_call 91; with_reducible refine below_calls (h56.out p)); clear hK K)))
      with_reducible refine wpQuiet_nil ?_
      intro _ hw'
      obtain ⟨pq, hw''⟩ := hw'
      subst hw''
      clear c0 c1 c2 c3 c4 c5 c6 c7 c8 c9 d0 d1 d2 d3 d4 d5 d6 d7 d8 d9
      have hend := Hid.intro (hP.out pq)
      go_wp2_with fail
      all_goals first | omega | skip
      go_roundw
      case rel => exact ⟨i + 1, by omega, by go_num, hend⟩
      case measure => simp [intOf]; omega
    · have hin : i = ni := by omega
      subst hin
      have hlt3 : ¬ ((i : Int) < (i : Int)) := by omega
      go_wp2
      all_goals first | omega | skip
      go_ret
      exact ⟨rfl, hB.out⟩


end Go.Proofs.YtmndccbeddaphaaGreatDoor
