/- What the laid variables give. -/
import Derived.Test.YtogkchgjpflmjaaGreatDoorUGl
import Derived.Test.YtogkchgjpflmjaaGreatDoorRfe
import Derived.Lib.LaidTab
/- unit's Right and Spans. -/
namespace Go.Proofs.YtogkchgjpflmjaaGreatDoor
open Go.ChangeShapes Go.WideShapes Go.ChangeAt Go.RowKit Go.Sort
set_option linter.unusedVariables false
set_option maxRecDepth 100000
structure RightU (u : UVal) : Prop where
 text : (u.text.all fun x => okI x 0) = true
 data : (u.data.all fun x => okI x 1) = true
 equs : u.equs.all okE = true
 once : ¬ Twice (sortS u.names)
 globs : GlobOk u.globs (sortS u.names)
def RightN (u : UVal) (n : Int) : Prop := (8192 < u.text.length + u.data.length ∨ 8192 < u.equs.length) /\ n = 4 ∨ ¬ (8192 < u.text.length + u.data.length ∨ 8192 < u.equs.length) /\ (RightU u /\ n = 0 ∨ ¬ RightU u /\ n = 31)
set_option maxHeartbeats 8000000 in
theorem unitRight_any (ta : Option Addr) (tc : Nat) (da : Option Addr) (dc : Nat) (ea : Option Addr) (ec : Nat) (ga : Option Addr) (gc : Nat) (u : UVal) (hu : HeldU u) (w : World) (hT : Tab w) (hI : UnitIn w ta da ea ga u) :
  Calls Tryz.prog 14 #[.agg (unitV ta tc da dc ea ec ga gc u)] w fun e w' => (∃ n : Int, e = .returned (.int .i64 n) /\ RightN u n) /\ Below w.heap.size w w' := by
 have hB0 : Below w.heap.size w (w.alloc (.cells (unitV ta tc da dc ea ec ga gc u) 26)) := below_alloc w _
 have hbx := heap_alloc_new w (.cells (unitV ta tc da dc ea ec ga gc u) 26)
 have hws : (w.alloc (.cells (unitV ta tc da dc ea ec ga gc u) 26)).heap.size = w.heap.size + 1 := by simp
 have hcells : Hid (∀ w1, Below (w.alloc (.cells (unitV ta tc da dc ea ec ga gc u) 26)).heap.size (w.alloc (.cells (unitV ta tc da dc ea ec ga gc u) 26)) w1 -> w1.cell? ⟨w.heap.size, 0, none⟩ = some (.slice ta u.text.length tc) /\ w1.cell? ⟨w.heap.size, 1, none⟩ = some (.slice da u.data.length dc) /\ w1.cell? ⟨w.heap.size, 2, none⟩ = some (.slice ea u.equs.length ec) /\ w1.cell? ⟨w.heap.size, 3, none⟩ = some (.slice ga u.globs.length gc)) := fun w1 h1 => four_read ((h1.block w.heap.size (by omega)).trans hbx)
 obtain ⟨c0, c1, c2, c3⟩ := four_read hbx
 have hI0 := Hid.intro (hI.below hB0)
 have hT0 := Hid.intro (hT.alloc (.cells (unitV ta tc da dc ea ec ga gc u) 26))
 have hh1 := hu.text.1
 have hh2 := hu.data.1
 have hh3 := hu.equs.1
 have q1 : wrap64 ((u.text.length : Int) + (u.data.length : Int)) = (u.text.length : Int) + (u.data.length : Int) := by unfold wrap64; omega
 have hB0H := Hid.intro hB0
 clear hbx hB0 hT
 by_cases hm1 : 8192 < u.text.length + u.data.length
 ·have p1 : decide ((8192 : Int) < (u.text.length : Int) + (u.data.length : Int)) = true := by simp; omega
  go_enter Tryz.func14, Tryz.ntmps14
  go_wp2
  all_goals first | omega | skip
  go_ret
  exact ⟨⟨4, rfl, .inl ⟨.inl hm1, rfl⟩⟩, hB0H.out⟩
 have p1 : decide ((8192 : Int) < (u.text.length : Int) + (u.data.length : Int)) = false := by simp; omega
 by_cases hm2 : 8192 < u.equs.length
 ·have p2 : decide ((8192 : Int) < (u.equs.length : Int)) = true := by simp; omega
  go_enter Tryz.func14, Tryz.ntmps14
  go_wp2
  all_goals first | omega | skip
  go_ret
  exact ⟨⟨4, rfl, .inl ⟨.inr hm2, rfl⟩⟩, hB0H.out⟩
 have p2 : decide ((8192 : Int) < (u.equs.length : Int)) = false := by simp; omega
 have hno : Hid (¬ (8192 < u.text.length + u.data.length ∨ 8192 < u.equs.length)) := by rintro (h | h); exact hm1 h; exact hm2 h
 have r1 := Hid.intro (rightItems_any ta tc u.text 0 (.inl rfl) hu.text.1 hu.text.2 _ hT0.out hI0.out.text)
 have r2 := Hid.intro (fun w1 (hb : Below (w.alloc (.cells (unitV ta tc da dc ea ec ga gc u) 26)).heap.size (w.alloc (.cells (unitV ta tc da dc ea ec ga gc u) 26)) w1) => rightItems_any da dc u.data 1 (.inr rfl) hu.data.1 hu.data.2 w1 (hT0.out.below hb hT0.out.size) (hI0.out.data.below hb))
 have r3 := Hid.intro (fun w1 (hb : Below (w.alloc (.cells (unitV ta tc da dc ea ec ga gc u) 26)).heap.size (w.alloc (.cells (unitV ta tc da dc ea ec ga gc u) 26)) w1) => rightEqus_any ea ec u.equs hu.equs.1 hu.equs.2 w1 (hI0.out.equs.below hb))
 have r4 := Hid.intro (fun w1 (hb : Below (w.alloc (.cells (unitV ta tc da dc ea ec ga gc u) 26)).heap.size (w.alloc (.cells (unitV ta tc da dc ea ec ga gc u) 26)) w1) => sortedNames_any ta tc da dc ea ec ga gc u hu w1 (hI0.out.below hb))
 have hnl : (sortS u.names).length <= 9000000 := by
  rw [sortS_len]
  have h1 := labN_len u.text
  have h2 := labN_len u.data
  unfold UVal.names
  simp
  omega
 have r5 := Hid.intro (fun a' c' w1 lo (ho : w1.ownsRow lo 9 1 (.slice a' (sortS u.names).length c') (sortS u.names).length ((sortS u.names).map encStr)) => hasTwice_any a' c' (sortS u.names) hnl w1 (own_stIn ho))
 have hg9 : u.globs.length <= 9000000 := by have := hu.globs; omega
 have r6 := Hid.intro (fun a' c' w2 (hb : Below (w.alloc (.cells (unitV ta tc da dc ea ec ga gc u) 26)).heap.size (w.alloc (.cells (unitV ta tc da dc ea ec ga gc u) 26)) w2) (hS : StIn w2 a' (sortS u.names)) => rightGlobals_any ga gc u.globs a' c' (sortS u.names) hg9 hnl (sortS_rise _) w2 (hI0.out.globs.below hb) hS)
 clear hm1 hm2 hI hu hnl hg9
 cases hTb : u.text.all fun x => okI x 0 with
 | false =>
  rw [hTb] at r1
  have hbad : Hid (¬ RightU u) := fun h => by have := h.text; rw [hTb] at this; cases this
  clear hTb
  go_enter Tryz.func14, Tryz.ntmps14
  go_wp2_with (first | (go_at_call 41; (with_reducible refine (r1.out).mono ?_); rintro e w1 ⟨rfl, hb1⟩; have hB1 := Hid.intro hb1; obtain ⟨x10, x11, x12, x13⟩ := hcells.out w1 hB1.out; clear hb1))
  all_goals first | omega | skip
  go_ret
  exact ⟨⟨31, rfl, .inr ⟨hno.out, .inr ⟨hbad.out, rfl⟩⟩⟩, hB0H.out.trans (hB1.out.mono hB0H.out.size)⟩
 | true =>
 rw [hTb] at r1
 cases hDb : u.data.all fun x => okI x 1 with
 | false =>
  rw [hDb] at r2
  have hbad : Hid (¬ RightU u) := fun h => by have := h.data; rw [hDb] at this; cases this
  clear hTb hDb
  go_enter Tryz.func14, Tryz.ntmps14
  go_wp2_with (first | (go_at_call 41; (with_reducible refine (r1.out).mono ?_); rintro e w1 ⟨rfl, hb1⟩; have hB1 := Hid.intro hb1; obtain ⟨x10, x11, x12, x13⟩ := hcells.out w1 hB1.out; clear hb1) | (go_at_call 41; (with_reducible refine (r2.out w1 hB1.out).mono ?_); rintro e w2 ⟨rfl, hb2⟩; have hB2 := Hid.intro (hB1.out.trans (hb2.mono hB1.out.size)); obtain ⟨x20, x21, x22, x23⟩ := hcells.out w2 hB2.out; clear hb2))
  all_goals first | omega | skip
  go_ret
  exact ⟨⟨31, rfl, .inr ⟨hno.out, .inr ⟨hbad.out, rfl⟩⟩⟩, hB0H.out.trans (hB2.out.mono hB0H.out.size)⟩
 | true =>
 rw [hDb] at r2
 cases hEb : u.equs.all okE with
 | false =>
  rw [hEb] at r3
  have hbad : Hid (¬ RightU u) := fun h => by have := h.equs; rw [hEb] at this; cases this
  clear hTb hDb hEb
  go_enter Tryz.func14, Tryz.ntmps14
  go_wp2_with (first | (go_at_call 41; (with_reducible refine (r1.out).mono ?_); rintro e w1 ⟨rfl, hb1⟩; have hB1 := Hid.intro hb1; obtain ⟨x10, x11, x12, x13⟩ := hcells.out w1 hB1.out; clear hb1) | (go_at_call 41; (with_reducible refine (r2.out w1 hB1.out).mono ?_); rintro e w2 ⟨rfl, hb2⟩; have hB2 := Hid.intro (hB1.out.trans (hb2.mono hB1.out.size)); obtain ⟨x20, x21, x22, x23⟩ := hcells.out w2 hB2.out; clear hb2) | (go_at_call 42; (with_reducible refine (r3.out w2 hB2.out).mono ?_); rintro e w3 ⟨rfl, hb3⟩; have hB3 := Hid.intro (hB2.out.trans (hb3.mono hB2.out.size)); obtain ⟨x30, x31, x32, x33⟩ := hcells.out w3 hB3.out; clear hb3))
  all_goals first | omega | skip
  go_ret
  exact ⟨⟨31, rfl, .inr ⟨hno.out, .inr ⟨hbad.out, rfl⟩⟩⟩, hB0H.out.trans (hB3.out.mono hB0H.out.size)⟩
 | true =>
 rw [hEb] at r3
 by_cases hTw : Twice (sortS u.names)
 ·have hbad : Hid (¬ RightU u) := fun h => h.once hTw
  replace r5 : Hid (∀ a' c' w1 lo, w1.ownsRow lo 9 1 (.slice a' (sortS u.names).length c') (sortS u.names).length ((sortS u.names).map encStr) -> Calls Tryz.prog 43 #[.slice a' (sortS u.names).length c'] w1 fun e w' => e = .returned (.bool true) /\ Below w1.heap.size w1 w') := fun a' c' w1 lo ho => (r5.out a' c' w1 lo ho).mono fun e w' ⟨⟨bv, h1, h2⟩, h3⟩ => ⟨by rw [h1, show bv = true from h2.2 hTw], h3⟩
  clear hTb hDb hEb hTw
  go_enter Tryz.func14, Tryz.ntmps14
  go_wp2_with (first | (go_at_call 41; (with_reducible refine (r1.out).mono ?_); rintro e w1 ⟨rfl, hb1⟩; have hB1 := Hid.intro hb1; obtain ⟨x10, x11, x12, x13⟩ := hcells.out w1 hB1.out; clear hb1) | (go_at_call 41; (with_reducible refine (r2.out w1 hB1.out).mono ?_); rintro e w2 ⟨rfl, hb2⟩; have hB2 := Hid.intro (hB1.out.trans (hb2.mono hB1.out.size)); obtain ⟨x20, x21, x22, x23⟩ := hcells.out w2 hB2.out; clear hb2) | (go_at_call 42; (with_reducible refine (r3.out w2 hB2.out).mono ?_); rintro e w3 ⟨rfl, hb3⟩; have hB3 := Hid.intro (hB2.out.trans (hb3.mono hB2.out.size)); obtain ⟨x30, x31, x32, x33⟩ := hcells.out w3 hB3.out; clear hb3) | (go_at_call 38; (with_reducible refine (r4.out w3 hB3.out).mono ?_); rintro e w4 ⟨a4, c4, rfl, hN4⟩; have hB4 := Hid.intro (hB3.out.trans (hN4.bel.mono hB3.out.size)); obtain ⟨x40, x41, x42, x43⟩ := hcells.out w4 hB4.out; replace hN4 := Hid.intro hN4) | (go_at_call 43; (with_reducible refine (r5.out a4 c4 w4 _ hN4.out.own).mono ?_); rintro e w5 ⟨rfl, hb5⟩; have hB5 := Hid.intro (hB4.out.trans (hb5.mono hB4.out.size)); obtain ⟨x50, x51, x52, x53⟩ := hcells.out w5 hB5.out; have hS5 := Hid.intro ((own_stIn hN4.out.own).below hb5); clear hb5))
  all_goals first | omega | skip
  go_ret
  exact ⟨⟨31, rfl, .inr ⟨hno.out, .inr ⟨hbad.out, rfl⟩⟩⟩, hB0H.out.trans (hB5.out.mono hB0H.out.size)⟩
 replace r5 : Hid (∀ a' c' w1 lo, w1.ownsRow lo 9 1 (.slice a' (sortS u.names).length c') (sortS u.names).length ((sortS u.names).map encStr) -> Calls Tryz.prog 43 #[.slice a' (sortS u.names).length c'] w1 fun e w' => e = .returned (.bool false) /\ Below w1.heap.size w1 w') := fun a' c' w1 lo ho => (r5.out a' c' w1 lo ho).mono fun e w' ⟨⟨bv, h1, h2⟩, h3⟩ => ⟨by rw [h1, show bv = false from Bool.eq_false_iff.2 fun h => hTw (h2.1 h)], h3⟩
 by_cases hGl : GlobOk u.globs (sortS u.names)
 ·have hgood : Hid (RightU u) := ⟨hTb, hDb, hEb, hTw, hGl⟩
  replace r6 : Hid (∀ a' c' w2, Below (w.alloc (.cells (unitV ta tc da dc ea ec ga gc u) 26)).heap.size (w.alloc (.cells (unitV ta tc da dc ea ec ga gc u) 26)) w2 -> StIn w2 a' (sortS u.names) -> Calls Tryz.prog 44 #[.slice ga u.globs.length gc, .slice a' (sortS u.names).length c'] w2 fun e w' => e = .returned (.bool true) /\ Below w2.heap.size w2 w') := fun a' c' w2 hb hS => (r6.out a' c' w2 hb hS).mono fun e w' ⟨⟨bv, h1, h2⟩, h3⟩ => ⟨by rw [h1, show bv = true from h2.2 hGl], h3⟩
  clear hTb hDb hEb hTw hGl
  go_enter Tryz.func14, Tryz.ntmps14
  go_wp2_with (first | (go_at_call 41; (with_reducible refine (r1.out).mono ?_); rintro e w1 ⟨rfl, hb1⟩; have hB1 := Hid.intro hb1; obtain ⟨x10, x11, x12, x13⟩ := hcells.out w1 hB1.out; clear hb1) | (go_at_call 41; (with_reducible refine (r2.out w1 hB1.out).mono ?_); rintro e w2 ⟨rfl, hb2⟩; have hB2 := Hid.intro (hB1.out.trans (hb2.mono hB1.out.size)); obtain ⟨x20, x21, x22, x23⟩ := hcells.out w2 hB2.out; clear hb2) | (go_at_call 42; (with_reducible refine (r3.out w2 hB2.out).mono ?_); rintro e w3 ⟨rfl, hb3⟩; have hB3 := Hid.intro (hB2.out.trans (hb3.mono hB2.out.size)); obtain ⟨x30, x31, x32, x33⟩ := hcells.out w3 hB3.out; clear hb3) | (go_at_call 38; (with_reducible refine (r4.out w3 hB3.out).mono ?_); rintro e w4 ⟨a4, c4, rfl, hN4⟩; have hB4 := Hid.intro (hB3.out.trans (hN4.bel.mono hB3.out.size)); obtain ⟨x40, x41, x42, x43⟩ := hcells.out w4 hB4.out; replace hN4 := Hid.intro hN4) | (go_at_call 43; (with_reducible refine (r5.out a4 c4 w4 _ hN4.out.own).mono ?_); rintro e w5 ⟨rfl, hb5⟩; have hB5 := Hid.intro (hB4.out.trans (hb5.mono hB4.out.size)); obtain ⟨x50, x51, x52, x53⟩ := hcells.out w5 hB5.out; have hS5 := Hid.intro ((own_stIn hN4.out.own).below hb5); clear hb5) | (go_at_call 44; (with_reducible refine (r6.out a4 c4 w5 hB5.out hS5.out).mono ?_); rintro e w6 ⟨rfl, hb6⟩; have hB6 := Hid.intro (hB5.out.trans (hb6.mono hB5.out.size)); clear hb6))
  all_goals first | omega | skip
  go_ret
  exact ⟨⟨0, rfl, .inr ⟨hno.out, .inl ⟨hgood.out, rfl⟩⟩⟩, hB0H.out.trans (hB6.out.mono hB0H.out.size)⟩
 ·have hbad : Hid (¬ RightU u) := fun h => hGl h.globs
  replace r6 : Hid (∀ a' c' w2, Below (w.alloc (.cells (unitV ta tc da dc ea ec ga gc u) 26)).heap.size (w.alloc (.cells (unitV ta tc da dc ea ec ga gc u) 26)) w2 -> StIn w2 a' (sortS u.names) -> Calls Tryz.prog 44 #[.slice ga u.globs.length gc, .slice a' (sortS u.names).length c'] w2 fun e w' => e = .returned (.bool false) /\ Below w2.heap.size w2 w') := fun a' c' w2 hb hS => (r6.out a' c' w2 hb hS).mono fun e w' ⟨⟨bv, h1, h2⟩, h3⟩ => ⟨by rw [h1, show bv = false from Bool.eq_false_iff.2 fun h => hGl (h2.1 h)], h3⟩
  clear hTb hDb hEb hTw hGl
  go_enter Tryz.func14, Tryz.ntmps14
  go_wp2_with (first | (go_at_call 41; (with_reducible refine (r1.out).mono ?_); rintro e w1 ⟨rfl, hb1⟩; have hB1 := Hid.intro hb1; obtain ⟨x10, x11, x12, x13⟩ := hcells.out w1 hB1.out; clear hb1) | (go_at_call 41; (with_reducible refine (r2.out w1 hB1.out).mono ?_); rintro e w2 ⟨rfl, hb2⟩; have hB2 := Hid.intro (hB1.out.trans (hb2.mono hB1.out.size)); obtain ⟨x20, x21, x22, x23⟩ := hcells.out w2 hB2.out; clear hb2) | (go_at_call 42; (with_reducible refine (r3.out w2 hB2.out).mono ?_); rintro e w3 ⟨rfl, hb3⟩; have hB3 := Hid.intro (hB2.out.trans (hb3.mono hB2.out.size)); obtain ⟨x30, x31, x32, x33⟩ := hcells.out w3 hB3.out; clear hb3) | (go_at_call 38; (with_reducible refine (r4.out w3 hB3.out).mono ?_); rintro e w4 ⟨a4, c4, rfl, hN4⟩; have hB4 := Hid.intro (hB3.out.trans (hN4.bel.mono hB3.out.size)); obtain ⟨x40, x41, x42, x43⟩ := hcells.out w4 hB4.out; replace hN4 := Hid.intro hN4) | (go_at_call 43; (with_reducible refine (r5.out a4 c4 w4 _ hN4.out.own).mono ?_); rintro e w5 ⟨rfl, hb5⟩; have hB5 := Hid.intro (hB4.out.trans (hb5.mono hB4.out.size)); obtain ⟨x50, x51, x52, x53⟩ := hcells.out w5 hB5.out; have hS5 := Hid.intro ((own_stIn hN4.out.own).below hb5); clear hb5) | (go_at_call 44; (with_reducible refine (r6.out a4 c4 w5 hB5.out hS5.out).mono ?_); rintro e w6 ⟨rfl, hb6⟩; have hB6 := Hid.intro (hB5.out.trans (hb6.mono hB5.out.size)); clear hb6))
  all_goals first | omega | skip
  go_ret
  exact ⟨⟨31, rfl, .inr ⟨hno.out, .inr ⟨hbad.out, rfl⟩⟩⟩, hB0H.out.trans (hB6.out.mono hB0H.out.size)⟩
def spanN (l : List Itm) : Nat := (l.filter fun x => x.kind == 2 && spansB (shapeN x.op)).length
theorem spanN_take (l : List Itm) (i : Nat) (x : Itm) (hx : l[i]? = some x) : spanN (l.take (i + 1)) = spanN (l.take i) + if (x.kind == 2 && spansB (shapeN x.op)) = true then 1 else 0 := by
 unfold spanN
 rw [List.take_add_one, hx, List.filter_append, List.length_append]
 by_cases h : (x.kind == 2 && spansB (shapeN x.op)) = true <;> simp [h]
theorem spanN_len (l : List Itm) : spanN l <= l.length := List.length_filter_le _ _
theorem rightN_one {u : UVal} {n m : Int} (h : RightN u n) (h' : RightN u m) : n = m := by
 unfold RightN at h h'
 by_cases hc : 8192 < u.text.length + u.data.length ∨ 8192 < u.equs.length
 ·rcases h with ⟨_, rfl⟩ | ⟨h1, _⟩
  ·rcases h' with ⟨_, rfl⟩ | ⟨h1, _⟩
   ·rfl
   ·exact absurd hc h1
  ·exact absurd hc h1
 ·rcases h with ⟨h1, _⟩ | ⟨_, h⟩
  ·exact absurd h1 hc
  ·rcases h' with ⟨h1, _⟩ | ⟨_, h'⟩
   ·exact absurd h1 hc
   ·by_cases hr : RightU u
    ·rcases h with ⟨_, rfl⟩ | ⟨h1, _⟩
     ·rcases h' with ⟨_, rfl⟩ | ⟨h1, _⟩
      ·rfl
      ·exact absurd hr h1
     ·exact absurd hr h1
    ·rcases h with ⟨h1, _⟩ | ⟨_, rfl⟩
     ·exact absurd h1 hr
     ·rcases h' with ⟨h1, _⟩ | ⟨_, rfl⟩
      ·exact absurd h1 hr
      ·rfl
theorem unitRight_is (ta : Option Addr) (tc : Nat) (da : Option Addr) (dc : Nat) (ea : Option Addr) (ec : Nat) (ga : Option Addr) (gc : Nat) (u : UVal) (hu : HeldU u) (w : World) (hT : Tab w) (hI : UnitIn w ta da ea ga u) (n : Int) (hn : RightN u n) :
  Calls Tryz.prog 14 #[.agg (unitV ta tc da dc ea ec ga gc u)] w fun e w' => e = .returned (.int .i64 n) /\ Below w.heap.size w w' :=
 (unitRight_any ta tc da dc ea ec ga gc u hu w hT hI).mono fun e w' ⟨⟨m, h1, h2⟩, h3⟩ => ⟨by rw [h1, rightN_one h2 hn], h3⟩
set_option maxHeartbeats 8000000 in
theorem unitSpans_any (ta : Option Addr) (tc : Nat) (da : Option Addr) (dc : Nat) (ea : Option Addr) (ec : Nat) (ga : Option Addr) (gc : Nat) (u : UVal) (hu : HeldU u) (w : World) (hT : Tab w) (hI : UnitIn w ta da ea ga u) (n : Int) (hn : RightN u n) :
  Calls Tryz.prog 21 #[.agg (unitV ta tc da dc ea ec ga gc u)] w fun e w' => e = .returned (.int .i64 (if n = 0 then (spanN u.text : Int) else 0)) /\ Below w.heap.size w w' := by
 have hB0 : Below w.heap.size w (w.alloc (.cells (unitV ta tc da dc ea ec ga gc u) 26)) := below_alloc w _
 have hbx := heap_alloc_new w (.cells (unitV ta tc da dc ea ec ga gc u) 26)
 have hws : (w.alloc (.cells (unitV ta tc da dc ea ec ga gc u) 26)).heap.size = w.heap.size + 1 := by simp
 obtain ⟨c0, c1, c2, c3⟩ := four_read hbx
 have hI0 := hI.below hB0
 have hr := Hid.intro (unitRight_is ta tc da dc ea ec ga gc u hu _ (hT.alloc _) hI0 n hn)
 have hcell : Hid (∀ w1, Below (w.alloc (.cells (unitV ta tc da dc ea ec ga gc u) 26)).heap.size (w.alloc (.cells (unitV ta tc da dc ea ec ga gc u) 26)) w1 -> w1.cell? ⟨w.heap.size, 0, none⟩ = some (.slice ta u.text.length tc) /\ Below w.heap.size w w1) := fun w1 h1 => ⟨(four_read ((h1.block w.heap.size (by omega)).trans hbx)).1, hB0.trans (h1.mono hB0.size)⟩
 have hIH := Hid.intro hI.text
 have hTH := Hid.intro hT
 have hh1 := hu.text.1
 clear hbx hB0 hT hI hI0 hn hu
 obtain ⟨n0, hn0⟩ : ∃ n0, n0 = u.text.length := ⟨_, rfl⟩
 by_cases h0 : n = 0
 ·subst h0
  rw [if_pos rfl]
  go_enter Tryz.func21, Tryz.ntmps21
  go_upto_region 4 with (go_at_call 14; (with_reducible refine (hr.out).mono ?_); rintro e w1 ⟨rfl, hb1⟩; obtain ⟨x0, hB1⟩ := hcell.out w1 hb1; replace hB1 := Hid.intro hB1; clear hb1)
  all_goals first | omega | skip
  clear c0 c1 c2 c3 hr hcell
  rw [<- hn0] at x0 hh1
  replace hn0 := Hid.intro hn0
  go_wp2
  all_goals first | omega | skip
  clear x0
  go_loopw [3, 12] (fun v3 v12 wr => ∃ i : Nat, i <= n0 /\ v3 = .int .i64 (spanN (u.text.take i) : Int) /\ v12 = .int .i64 (i : Int) /\ Hid (Below w.heap.size w wr)) (fun v3 v12 wr => n0 - (intOf v12).toNat)
  case atStart => exact ⟨0, by omega, rfl, rfl, hB1⟩
  case round =>
   clear hB1
   obtain ⟨i, hi, rfl, rfl, hB⟩ := hrel
   by_cases hlt : i < n0
   ·obtain ⟨x, hx⟩ : ∃ x, u.text[i]? = some x := ⟨u.text[i]'(by rw [<- hn0.out]; exact hlt), List.getElem?_eq_getElem _⟩
    rcases hIH.out.below hB.out with h0 | ⟨g, o, rfl, hg, hat⟩
    ·rw [h0] at hx; simp at hx
    obtain ⟨va, vc, hI, hTm⟩ := hat i x hx
    obtain ⟨c0, c1, c2, c3, c4, c5, c6, c7, c8, c9⟩ := hI
    have hlt2 : (i : Int) < (n0 : Int) := by omega
    have hnext := Hid.intro (spanN_take u.text i x hx)
    have hsl : spanN (u.text.take i) <= i := Nat.le_trans (spanN_len _) (by rw [List.length_take]; omega)
    have hbx := heap_alloc_new wr (.cells (itmCells x (.slice va x.e.terms.length vc)) 91)
    obtain ⟨b0, b1, b2, b3, b4, b5, b6, b7, b8, b9⟩ := rowIt hbx
    have hB1 : Hid (Below w.heap.size w (wr.alloc (.cells (itmCells x (.slice va x.e.terms.length vc)) 91))) := hB.out.alloc hB.out.size _
    have hTr := (hTH.out.below hB.out hTH.out.size).alloc (.cells (itmCells x (.slice va x.e.terms.length vc)) 91)
    have hsp := Hid.intro (spansOp_any x.op _ hTr)
    clear hbx hx hTm hat hg hTr
    generalize x.e.terms.length = ln at *
    generalize spanN (u.text.take i) = sn at *
    by_cases hk : x.kind = 2
    ·have e1 : (x.kind == 2) = true := by simpa using hk
     rw [e1, Bool.true_and] at hnext
     clear hk
     generalize spansB (shapeN x.op) = sb at hsp hnext
     cases sb with
     | true =>
      go_wp2_with (go_at_call 54; (with_reducible refine (hsp.out).mono ?_); rintro e w1 ⟨rfl, hb1⟩)
      all_goals first | omega | skip
      go_roundw
      case rel => exact ⟨i + 1, by omega, by rw [hnext.out]; go_num, by go_num, hB1.out.trans (hb1.mono hB1.out.size)⟩
      case measure => simp [intOf]; omega
     | false =>
      go_wp2_with (go_at_call 54; (with_reducible refine (hsp.out).mono ?_); rintro e w1 ⟨rfl, hb1⟩)
      all_goals first | omega | skip
      go_roundw
      case rel => exact ⟨i + 1, by omega, by rw [hnext.out]; simp, by go_num, hB1.out.trans (hb1.mono hB1.out.size)⟩
      case measure => simp [intOf]; omega
    ·have e1 : (x.kind == 2) = false := by simpa using hk
     rw [e1, Bool.false_and] at hnext
     clear hk
     go_wp2
     all_goals first | omega | skip
     go_roundw
     case rel => exact ⟨i + 1, by omega, by rw [hnext.out]; simp, by go_num, hB1⟩
     case measure => simp [intOf]; omega
   ·obtain rfl : i = n0 := by omega
    have hlt3 : ¬ ((i : Int) < (i : Int)) := by omega
    have e0 : Hid (u.text.take i = u.text) := by show _ = _; rw [hn0.out, List.take_length]
    generalize hsn : spanN (u.text.take i) = sn at *
    rw [e0.out] at hsn
    replace hsn := Hid.intro hsn
    go_wp2
    all_goals first | omega | skip
    go_ret
    rw [hsn.out]
    exact ⟨rfl, hB.out⟩
 ·rw [if_neg h0]
  have e0 : (n == 0) = false := by simpa using h0
  clear h0
  go_enter Tryz.func21, Tryz.ntmps21
  go_wp2_with (go_at_call 14; (with_reducible refine (hr.out).mono ?_); rintro e w1 ⟨rfl, hb1⟩; obtain ⟨x0, hB1⟩ := hcell.out w1 hb1; replace hB1 := Hid.intro hB1; clear hb1)
  all_goals first | omega | skip
  go_ret
  exact ⟨rfl, hB1.out⟩
end Go.Proofs.YtogkchgjpflmjaaGreatDoor
/- The law's says; what is assembled is right. -/
namespace Go.Proofs.YtogkchgjpflmjaaGreatDoor
open Go.ChangeShapes Go.WideShapes Go.ChangeAt Go.RowKit Go.Sort
set_option linter.unusedVariables false
set_option maxRecDepth 100000
structure Env (w : World) : Prop where
  tab : Tab w
  err : ErrT w
  pow : Pow w
theorem Env.lt {w : World} (h : Env w) : 4 < w.heap.size := h.pow.lt
theorem Env.below {w w' : World} (h : Env w) (hb : Below w.heap.size w w') : Env w' := ⟨h.tab.below hb h.tab.size, h.err.below hb h.err.lt, h.pow.below hb h.pow.lt⟩
set_option maxHeartbeats 4000000 in
theorem says_bad (l : List UInt8) (n k : Nat) (hn : n ≤ 1000000) (hk : k ≤ 99) (hk0 : k ≠ 0) (h : asmF l = .error (n, (k : Int))) (w : World) (hE : Env w) :
    Calls Tryz.prog 13 #[.string (str l), .int .i64 (n : Int), .int .i64 (k : Int)] w fun e w' => e = .returned (.bool true) ∧ Below w.heap.size w w' := by
  have ha := assemble_any l w hE.tab hE.err
  rw [h] at ha
  replace ha : Hid (Calls Tryz.prog 9 #[.string (str l)] w fun e w' => Below w.heap.size w w' ∧ ∃ q, e = .returned (.tuple #[unitZ, .iface 51 (.pointer (some ⟨q, 0, none⟩))]) ∧ RefAt w' w.heap.size q (n : Int) (k : Int)) := ha
  have hr := Hid.intro (fun q w1 (hE1 : Env w1) (hq : w1.heap[q]? = some (.cells #[.int .i64 (n : Int), .int .i64 (k : Int)] 55 (0, 0))) => refused_any q n k hn hk hk0 w1 hE1.pow hq)
  have hEH := Hid.intro hE
  clear hE h hn hk hk0
  generalize str l = S at *
  generalize (n : Int) = N at *
  generalize (k : Int) = K9 at *
  go_enter Tryz.func13, Tryz.ntmps13
  go_wp2_with (first
    | (go_at_call 9; (with_reducible refine (ha.out).mono ?_); rintro e w1 ⟨hb1, q, rfl, hq⟩; have hq1 := Hid.intro (keepN hq.2 (.cells (unit4 (.slice none 0 0) (.slice none 0 0) (.slice none 0 0) (.slice none 0 0)) 26)); have hB2 := Hid.intro (hb1.alloc hb1.size (.cells (unit4 (.slice none 0 0) (.slice none 0 0) (.slice none 0 0) (.slice none 0 0)) 26)); clear hq hb1)
    | (go_at_call 18; (with_reducible refine (hr.out q _ (hEH.out.below hB2.out) hq1.out).mono ?_); rintro e w3 ⟨rfl, hb3⟩))
  go_ret
  exact ⟨rfl, hB2.out.trans (hb3.mono hB2.out.size)⟩
end Go.Proofs.YtogkchgjpflmjaaGreatDoor
namespace Go.Proofs.YtogkchgjpflmjaaGreatDoor
open Go.ChangeShapes Go.WideShapes Go.ChangeAt Go.RowKit
set_option linter.unusedVariables false
set_option maxRecDepth 100000
abbrev laid5 : List (String × DataW Unit) := [("math/bits.deBruijn32tab", Rows.laid_math_bits_deBruijn32tab), ("math/bits.deBruijn64tab", Rows.laid_math_bits_deBruijn64tab), ("internal/strconv.uint64pow10", Rows.laid_internal_strconv_uint64pow10), ("spandrel/isa.ops", Rows.laid_spandrel_isa_ops), ("spandrel/isa.shapes", Rows.laid_spandrel_isa_shapes)]
theorem pow_of_laid9 {W : World} (h : laidMetH Tryz.prog laid9 W) : Pow W := by
  have h0 : laidMet Tryz.prog laid5 W := h.1
  have h1 := laidMet.tail (laidMet.tail h0)
  exact Lib.tabIs_of_head (rest := [("spandrel/isa.ops", Rows.laid_spandrel_isa_ops), ("spandrel/isa.shapes", Rows.laid_spandrel_isa_shapes)]) gPow (by kernel_rfl) Tryz.underlying299 (by kernel_rfl) (by kernel_rfl) (by kernel_rfl) h1
theorem env_of_laid {W : World} (h : laidMetH Tryz.prog laid9 W) : Env W := ⟨tab_of_laid9 h, errT_of_laid h, pow_of_laid9 h⟩
end Go.Proofs.YtogkchgjpflmjaaGreatDoor
