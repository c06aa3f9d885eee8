/- What is assembled is right. -/
import Derived.Test.YtogkchgjpflmjaaGreatDoorUGl
import Derived.Test.YtogkchgjpflmjaaGreatDoorWhl
/- unit's Right and Spans. -/
namespace Go.Proofs.YtogkchgjpflmjaaGreatDoor
open Go.ChangeShapes Go.WideShapes Go.ChangeAt Go.RowKit Go.Sort
set_option linter.unusedVariables false
set_option maxRecDepth 100000
structure RightU (u : UVal) : Prop where
  text : (u.text.all fun x => okI x 0) = true
  data : (u.data.all fun x => okI x 1) = true
  equs : u.equs.all okE = true
  once : ¬ Twice (sortS u.names)
  globs : GlobOk u.globs (sortS u.names)
def RightN (u : UVal) (n : Int) : Prop := (8192 < u.text.length + u.data.length ∨ 8192 < u.equs.length) ∧ n = 4 ∨ ¬ (8192 < u.text.length + u.data.length ∨ 8192 < u.equs.length) ∧ (RightU u ∧ n = 0 ∨ ¬ RightU u ∧ n = 31)
set_option maxHeartbeats 8000000 in
theorem unitRight_any (ta : Option Addr) (tc : Nat) (da : Option Addr) (dc : Nat) (ea : Option Addr) (ec : Nat) (ga : Option Addr) (gc : Nat) (u : UVal) (hu : HeldU u) (w : World) (hT : Tab w) (hI : UnitIn w ta da ea ga u) :
    Calls Tryz.prog 14 #[.agg (unitV ta tc da dc ea ec ga gc u)] w fun e w' => (∃ n : Int, e = .returned (.int .i64 n) ∧ RightN u n) ∧ Below w.heap.size w w' := by
  have hB0 : Below w.heap.size w (w.alloc (.cells (unitV ta tc da dc ea ec ga gc u) 26)) := below_alloc w _
  have hbx := heap_alloc_new w (.cells (unitV ta tc da dc ea ec ga gc u) 26)
  have hws : (w.alloc (.cells (unitV ta tc da dc ea ec ga gc u) 26)).heap.size = w.heap.size + 1 := by simp
  have hcells : Hid (∀ w1, Below (w.alloc (.cells (unitV ta tc da dc ea ec ga gc u) 26)).heap.size (w.alloc (.cells (unitV ta tc da dc ea ec ga gc u) 26)) w1 → w1.cell? ⟨w.heap.size, 0, none⟩ = some (.slice ta u.text.length tc) ∧ w1.cell? ⟨w.heap.size, 1, none⟩ = some (.slice da u.data.length dc) ∧ w1.cell? ⟨w.heap.size, 2, none⟩ = some (.slice ea u.equs.length ec) ∧ w1.cell? ⟨w.heap.size, 3, none⟩ = some (.slice ga u.globs.length gc)) := fun w1 h1 => four_read ((h1.block w.heap.size (by omega)).trans hbx)
  obtain ⟨c0, c1, c2, c3⟩ := four_read hbx
  have hI0 := Hid.intro (hI.below hB0)
  have hT0 := Hid.intro (hT.alloc (.cells (unitV ta tc da dc ea ec ga gc u) 26))
  have hh1 := hu.text.1
  have hh2 := hu.data.1
  have hh3 := hu.equs.1
  have q1 : wrap64 ((u.text.length : Int) + (u.data.length : Int)) = (u.text.length : Int) + (u.data.length : Int) := by unfold wrap64; omega
  have hB0H := Hid.intro hB0
  clear hbx hB0 hT
  by_cases hm1 : 8192 < u.text.length + u.data.length
  · have p1 : decide ((8192 : Int) < (u.text.length : Int) + (u.data.length : Int)) = true := by simp; omega
    go_enter Tryz.func14, Tryz.ntmps14
    go_wp2
    all_goals first | omega | skip
    go_ret
    exact ⟨⟨4, rfl, .inl ⟨.inl hm1, rfl⟩⟩, hB0H.out⟩
  have p1 : decide ((8192 : Int) < (u.text.length : Int) + (u.data.length : Int)) = false := by simp; omega
  by_cases hm2 : 8192 < u.equs.length
  · have p2 : decide ((8192 : Int) < (u.equs.length : Int)) = true := by simp; omega
    go_enter Tryz.func14, Tryz.ntmps14
    go_wp2
    all_goals first | omega | skip
    go_ret
    exact ⟨⟨4, rfl, .inl ⟨.inr hm2, rfl⟩⟩, hB0H.out⟩
  have p2 : decide ((8192 : Int) < (u.equs.length : Int)) = false := by simp; omega
  have hno : Hid (¬ (8192 < u.text.length + u.data.length ∨ 8192 < u.equs.length)) := by rintro (h | h); exact hm1 h; exact hm2 h
  have r1 := Hid.intro (rightItems_any ta tc u.text 0 (.inl rfl) hu.text.1 hu.text.2 _ hT0.out hI0.out.text)
  have r2 := Hid.intro (fun w1 (hb : Below (w.alloc (.cells (unitV ta tc da dc ea ec ga gc u) 26)).heap.size (w.alloc (.cells (unitV ta tc da dc ea ec ga gc u) 26)) w1) => rightItems_any da dc u.data 1 (.inr rfl) hu.data.1 hu.data.2 w1 (hT0.out.below hb hT0.out.size) (hI0.out.data.below hb))
  have r3 := Hid.intro (fun w1 (hb : Below (w.alloc (.cells (unitV ta tc da dc ea ec ga gc u) 26)).heap.size (w.alloc (.cells (unitV ta tc da dc ea ec ga gc u) 26)) w1) => rightEqus_any ea ec u.equs hu.equs.1 hu.equs.2 w1 (hI0.out.equs.below hb))
  have r4 := Hid.intro (fun w1 (hb : Below (w.alloc (.cells (unitV ta tc da dc ea ec ga gc u) 26)).heap.size (w.alloc (.cells (unitV ta tc da dc ea ec ga gc u) 26)) w1) => sortedNames_any ta tc da dc ea ec ga gc u hu w1 (hI0.out.below hb))
  have hnl : (sortS u.names).length ≤ 9000000 := by
    rw [sortS_len]
    have h1 := labN_len u.text
    have h2 := labN_len u.data
    unfold UVal.names
    simp
    omega
  have r5 := Hid.intro (fun a' c' w1 lo (ho : w1.ownsRow lo 9 1 (.slice a' (sortS u.names).length c') (sortS u.names).length ((sortS u.names).map encStr)) => hasTwice_any a' c' (sortS u.names) hnl w1 (own_stIn ho))
  have hg9 : u.globs.length ≤ 9000000 := by have := hu.globs; omega
  have r6 := Hid.intro (fun a' c' w2 (hb : Below (w.alloc (.cells (unitV ta tc da dc ea ec ga gc u) 26)).heap.size (w.alloc (.cells (unitV ta tc da dc ea ec ga gc u) 26)) w2) (hS : StIn w2 a' (sortS u.names)) => rightGlobals_any ga gc u.globs a' c' (sortS u.names) hg9 hnl (sortS_rise _) w2 (hI0.out.globs.below hb) hS)
  clear hm1 hm2 hI hu hnl hg9
  cases hTb : u.text.all fun x => okI x 0 with
  | false =>
    rw [hTb] at r1
    have hbad : Hid (¬ RightU u) := fun h => by have := h.text; rw [hTb] at this; cases this
    clear hTb
    go_enter Tryz.func14, Tryz.ntmps14
    go_wp2_with (first | (go_at_call 41; (with_reducible refine (r1.out).mono ?_); rintro e w1 ⟨rfl, hb1⟩; have hB1 := Hid.intro hb1; obtain ⟨x10, x11, x12, x13⟩ := hcells.out w1 hB1.out; clear hb1))
    all_goals first | omega | skip
    go_ret
    exact ⟨⟨31, rfl, .inr ⟨hno.out, .inr ⟨hbad.out, rfl⟩⟩⟩, hB0H.out.trans (hB1.out.mono hB0H.out.size)⟩
  | true =>
  rw [hTb] at r1
  cases hDb : u.data.all fun x => okI x 1 with
  | false =>
    rw [hDb] at r2
    have hbad : Hid (¬ RightU u) := fun h => by have := h.data; rw [hDb] at this; cases this
    clear hTb hDb
    go_enter Tryz.func14, Tryz.ntmps14
    go_wp2_with (first | (go_at_call 41; (with_reducible refine (r1.out).mono ?_); rintro e w1 ⟨rfl, hb1⟩; have hB1 := Hid.intro hb1; obtain ⟨x10, x11, x12, x13⟩ := hcells.out w1 hB1.out; clear hb1) | (go_at_call 41; (with_reducible refine (r2.out w1 hB1.out).mono ?_); rintro e w2 ⟨rfl, hb2⟩; have hB2 := Hid.intro (hB1.out.trans (hb2.mono hB1.out.size)); obtain ⟨x20, x21, x22, x23⟩ := hcells.out w2 hB2.out; clear hb2))
    all_goals first | omega | skip
    go_ret
    exact ⟨⟨31, rfl, .inr ⟨hno.out, .inr ⟨hbad.out, rfl⟩⟩⟩, hB0H.out.trans (hB2.out.mono hB0H.out.size)⟩
  | true =>
  rw [hDb] at r2
  cases hEb : u.equs.all okE with
  | false =>
    rw [hEb] at r3
    have hbad : Hid (¬ RightU u) := fun h => by have := h.equs; rw [hEb] at this; cases this
    clear hTb hDb hEb
    go_enter Tryz.func14, Tryz.ntmps14
    go_wp2_with (first | (go_at_call 41; (with_reducible refine (r1.out).mono ?_); rintro e w1 ⟨rfl, hb1⟩; have hB1 := Hid.intro hb1; obtain ⟨x10, x11, x12, x13⟩ := hcells.out w1 hB1.out; clear hb1) | (go_at_call 41; (with_reducible refine (r2.out w1 hB1.out).mono ?_); rintro e w2 ⟨rfl, hb2⟩; have hB2 := Hid.intro (hB1.out.trans (hb2.mono hB1.out.size)); obtain ⟨x20, x21, x22, x23⟩ := hcells.out w2 hB2.out; clear hb2) | (go_at_call 42; (with_reducible refine (r3.out w2 hB2.out).mono ?_); rintro e w3 ⟨rfl, hb3⟩; have hB3 := Hid.intro (hB2.out.trans (hb3.mono hB2.out.size)); obtain ⟨x30, x31, x32, x33⟩ := hcells.out w3 hB3.out; clear hb3))
    all_goals first | omega | skip
    go_ret
    exact ⟨⟨31, rfl, .inr ⟨hno.out, .inr ⟨hbad.out, rfl⟩⟩⟩, hB0H.out.trans (hB3.out.mono hB0H.out.size)⟩
  | true =>
  rw [hEb] at r3
  by_cases hTw : Twice (sortS u.names)
  · have hbad : Hid (¬ RightU u) := fun h => h.once hTw
    replace r5 : Hid (∀ a' c' w1 lo, w1.ownsRow lo 9 1 (.slice a' (sortS u.names).length c') (sortS u.names).length ((sortS u.names).map encStr) → Calls Tryz.prog 43 #[.slice a' (sortS u.names).length c'] w1 fun e w' => e = .returned (.bool true) ∧ Below w1.heap.size w1 w') := fun a' c' w1 lo ho => (r5.out a' c' w1 lo ho).mono fun e w' ⟨⟨bv, h1, h2⟩, h3⟩ => ⟨by rw [h1, show bv = true from h2.2 hTw], h3⟩
    clear hTb hDb hEb hTw
    go_enter Tryz.func14, Tryz.ntmps14
    go_wp2_with (first | (go_at_call 41; (with_reducible refine (r1.out).mono ?_); rintro e w1 ⟨rfl, hb1⟩; have hB1 := Hid.intro hb1; obtain ⟨x10, x11, x12, x13⟩ := hcells.out w1 hB1.out; clear hb1) | (go_at_call 41; (with_reducible refine (r2.out w1 hB1.out).mono ?_); rintro e w2 ⟨rfl, hb2⟩; have hB2 := Hid.intro (hB1.out.trans (hb2.mono hB1.out.size)); obtain ⟨x20, x21, x22, x23⟩ := hcells.out w2 hB2.out; clear hb2) | (go_at_call 42; (with_reducible refine (r3.out w2 hB2.out).mono ?_); rintro e w3 ⟨rfl, hb3⟩; have hB3 := Hid.intro (hB2.out.trans (hb3.mono hB2.out.size)); obtain ⟨x30, x31, x32, x33⟩ := hcells.out w3 hB3.out; clear hb3) | (go_at_call 38; (with_reducible refine (r4.out w3 hB3.out).mono ?_); rintro e w4 ⟨a4, c4, rfl, hN4⟩; have hB4 := Hid.intro (hB3.out.trans (hN4.bel.mono hB3.out.size)); obtain ⟨x40, x41, x42, x43⟩ := hcells.out w4 hB4.out; replace hN4 := Hid.intro hN4) | (go_at_call 43; (with_reducible refine (r5.out a4 c4 w4 _ hN4.out.own).mono ?_); rintro e w5 ⟨rfl, hb5⟩; have hB5 := Hid.intro (hB4.out.trans (hb5.mono hB4.out.size)); obtain ⟨x50, x51, x52, x53⟩ := hcells.out w5 hB5.out; have hS5 := Hid.intro ((own_stIn hN4.out.own).below hb5); clear hb5))
    all_goals first | omega | skip
    go_ret
    exact ⟨⟨31, rfl, .inr ⟨hno.out, .inr ⟨hbad.out, rfl⟩⟩⟩, hB0H.out.trans (hB5.out.mono hB0H.out.size)⟩
  replace r5 : Hid (∀ a' c' w1 lo, w1.ownsRow lo 9 1 (.slice a' (sortS u.names).length c') (sortS u.names).length ((sortS u.names).map encStr) → Calls Tryz.prog 43 #[.slice a' (sortS u.names).length c'] w1 fun e w' => e = .returned (.bool false) ∧ Below w1.heap.size w1 w') := fun a' c' w1 lo ho => (r5.out a' c' w1 lo ho).mono fun e w' ⟨⟨bv, h1, h2⟩, h3⟩ => ⟨by rw [h1, show bv = false from Bool.eq_false_iff.2 fun h => hTw (h2.1 h)], h3⟩
  by_cases hGl : GlobOk u.globs (sortS u.names)
  · have hgood : Hid (RightU u) := ⟨hTb, hDb, hEb, hTw, hGl⟩
    replace r6 : Hid (∀ a' c' w2, Below (w.alloc (.cells (unitV ta tc da dc ea ec ga gc u) 26)).heap.size (w.alloc (.cells (unitV ta tc da dc ea ec ga gc u) 26)) w2 → StIn w2 a' (sortS u.names) → Calls Tryz.prog 44 #[.slice ga u.globs.length gc, .slice a' (sortS u.names).length c'] w2 fun e w' => e = .returned (.bool true) ∧ Below w2.heap.size w2 w') := fun a' c' w2 hb hS => (r6.out a' c' w2 hb hS).mono fun e w' ⟨⟨bv, h1, h2⟩, h3⟩ => ⟨by rw [h1, show bv = true from h2.2 hGl], h3⟩
    clear hTb hDb hEb hTw hGl
    go_enter Tryz.func14, Tryz.ntmps14
    go_wp2_with (first | (go_at_call 41; (with_reducible refine (r1.out).mono ?_); rintro e w1 ⟨rfl, hb1⟩; have hB1 := Hid.intro hb1; obtain ⟨x10, x11, x12, x13⟩ := hcells.out w1 hB1.out; clear hb1) | (go_at_call 41; (with_reducible refine (r2.out w1 hB1.out).mono ?_); rintro e w2 ⟨rfl, hb2⟩; have hB2 := Hid.intro (hB1.out.trans (hb2.mono hB1.out.size)); obtain ⟨x20, x21, x22, x23⟩ := hcells.out w2 hB2.out; clear hb2) | (go_at_call 42; (with_reducible refine (r3.out w2 hB2.out).mono ?_); rintro e w3 ⟨rfl, hb3⟩; have hB3 := Hid.intro (hB2.out.trans (hb3.mono hB2.out.size)); obtain ⟨x30, x31, x32, x33⟩ := hcells.out w3 hB3.out; clear hb3) | (go_at_call 38; (with_reducible refine (r4.out w3 hB3.out).mono ?_); rintro e w4 ⟨a4, c4, rfl, hN4⟩; have hB4 := Hid.intro (hB3.out.trans (hN4.bel.mono hB3.out.size)); obtain ⟨x40, x41, x42, x43⟩ := hcells.out w4 hB4.out; replace hN4 := Hid.intro hN4) | (go_at_call 43; (with_reducible refine (r5.out a4 c4 w4 _ hN4.out.own).mono ?_); rintro e w5 ⟨rfl, hb5⟩; have hB5 := Hid.intro (hB4.out.trans (hb5.mono hB4.out.size)); obtain ⟨x50, x51, x52, x53⟩ := hcells.out w5 hB5.out; have hS5 := Hid.intro ((own_stIn hN4.out.own).below hb5); clear hb5) | (go_at_call 44; (with_reducible refine (r6.out a4 c4 w5 hB5.out hS5.out).mono ?_); rintro e w6 ⟨rfl, hb6⟩; have hB6 := Hid.intro (hB5.out.trans (hb6.mono hB5.out.size)); clear hb6))
    all_goals first | omega | skip
    go_ret
    exact ⟨⟨0, rfl, .inr ⟨hno.out, .inl ⟨hgood.out, rfl⟩⟩⟩, hB0H.out.trans (hB6.out.mono hB0H.out.size)⟩
  · have hbad : Hid (¬ RightU u) := fun h => hGl h.globs
    replace r6 : Hid (∀ a' c' w2, Below (w.alloc (.cells (unitV ta tc da dc ea ec ga gc u) 26)).heap.size (w.alloc (.cells (unitV ta tc da dc ea ec ga gc u) 26)) w2 → StIn w2 a' (sortS u.names) → Calls Tryz.prog 44 #[.slice ga u.globs.length gc, .slice a' (sortS u.names).length c'] w2 fun e w' => e = .returned (.bool false) ∧ Below w2.heap.size w2 w') := fun a' c' w2 hb hS => (r6.out a' c' w2 hb hS).mono fun e w' ⟨⟨bv, h1, h2⟩, h3⟩ => ⟨by rw [h1, show bv = false from Bool.eq_false_iff.2 fun h => hGl (h2.1 h)], h3⟩
    clear hTb hDb hEb hTw hGl
    go_enter Tryz.func14, Tryz.ntmps14
    go_wp2_with (first | (go_at_call 41; (with_reducible refine (r1.out).mono ?_); rintro e w1 ⟨rfl, hb1⟩; have hB1 := Hid.intro hb1; obtain ⟨x10, x11, x12, x13⟩ := hcells.out w1 hB1.out; clear hb1) | (go_at_call 41; (with_reducible refine (r2.out w1 hB1.out).mono ?_); rintro e w2 ⟨rfl, hb2⟩; have hB2 := Hid.intro (hB1.out.trans (hb2.mono hB1.out.size)); obtain ⟨x20, x21, x22, x23⟩ := hcells.out w2 hB2.out; clear hb2) | (go_at_call 42; (with_reducible refine (r3.out w2 hB2.out).mono ?_); rintro e w3 ⟨rfl, hb3⟩; have hB3 := Hid.intro (hB2.out.trans (hb3.mono hB2.out.size)); obtain ⟨x30, x31, x32, x33⟩ := hcells.out w3 hB3.out; clear hb3) | (go_at_call 38; (with_reducible refine (r4.out w3 hB3.out).mono ?_); rintro e w4 ⟨a4, c4, rfl, hN4⟩; have hB4 := Hid.intro (hB3.out.trans (hN4.bel.mono hB3.out.size)); obtain ⟨x40, x41, x42, x43⟩ := hcells.out w4 hB4.out; replace hN4 := Hid.intro hN4) | (go_at_call 43; (with_reducible refine (r5.out a4 c4 w4 _ hN4.out.own).mono ?_); rintro e w5 ⟨rfl, hb5⟩; have hB5 := Hid.intro (hB4.out.trans (hb5.mono hB4.out.size)); obtain ⟨x50, x51, x52, x53⟩ := hcells.out w5 hB5.out; have hS5 := Hid.intro ((own_stIn hN4.out.own).below hb5); clear hb5) | (go_at_call 44; (with_reducible refine (r6.out a4 c4 w5 hB5.out hS5.out).mono ?_); rintro e w6 ⟨rfl, hb6⟩; have hB6 := Hid.intro (hB5.out.trans (hb6.mono hB5.out.size)); clear hb6))
    all_goals first | omega | skip
    go_ret
    exact ⟨⟨31, rfl, .inr ⟨hno.out, .inr ⟨hbad.out, rfl⟩⟩⟩, hB0H.out.trans (hB6.out.mono hB0H.out.size)⟩
def spanN (l : List Itm) : Nat := (l.filter fun x => x.kind == 2 && spansB (shapeN x.op)).length
theorem spanN_take (l : List Itm) (i : Nat) (x : Itm) (hx : l[i]? = some x) : spanN (l.take (i + 1)) = spanN (l.take i) + if (x.kind == 2 && spansB (shapeN x.op)) = true then 1 else 0 := by
  unfold spanN
  rw [List.take_add_one, hx, List.filter_append, List.length_append]
  by_cases h : (x.kind == 2 && spansB (shapeN x.op)) = true <;> simp [h]
theorem spanN_len (l : List Itm) : spanN l ≤ l.length := List.length_filter_le _ _
theorem rightN_one {u : UVal} {n m : Int} (h : RightN u n) (h' : RightN u m) : n = m := by
  unfold RightN at h h'
  by_cases hc : 8192 < u.text.length + u.data.length ∨ 8192 < u.equs.length
  · rcases h with ⟨_, rfl⟩ | ⟨h1, _⟩
    · rcases h' with ⟨_, rfl⟩ | ⟨h1, _⟩
      · rfl
      · exact absurd hc h1
    · exact absurd hc h1
  · rcases h with ⟨h1, _⟩ | ⟨_, h⟩
    · exact absurd h1 hc
    · rcases h' with ⟨h1, _⟩ | ⟨_, h'⟩
      · exact absurd h1 hc
      · by_cases hr : RightU u
        · rcases h with ⟨_, rfl⟩ | ⟨h1, _⟩
          · rcases h' with ⟨_, rfl⟩ | ⟨h1, _⟩
            · rfl
            · exact absurd hr h1
          · exact absurd hr h1
        · rcases h with ⟨h1, _⟩ | ⟨_, rfl⟩
          · exact absurd h1 hr
          · rcases h' with ⟨h1, _⟩ | ⟨_, rfl⟩
            · exact absurd h1 hr
            · rfl
theorem unitRight_is (ta : Option Addr) (tc : Nat) (da : Option Addr) (dc : Nat) (ea : Option Addr) (ec : Nat) (ga : Option Addr) (gc : Nat) (u : UVal) (hu : HeldU u) (w : World) (hT : Tab w) (hI : UnitIn w ta da ea ga u) (n : Int) (hn : RightN u n) :
    Calls Tryz.prog 14 #[.agg (unitV ta tc da dc ea ec ga gc u)] w fun e w' => e = .returned (.int .i64 n) ∧ Below w.heap.size w w' :=
  (unitRight_any ta tc da dc ea ec ga gc u hu w hT hI).mono fun e w' ⟨⟨m, h1, h2⟩, h3⟩ => ⟨by rw [h1, rightN_one h2 hn], h3⟩
set_option maxHeartbeats 8000000 in
theorem unitSpans_any (ta : Option Addr) (tc : Nat) (da : Option Addr) (dc : Nat) (ea : Option Addr) (ec : Nat) (ga : Option Addr) (gc : Nat) (u : UVal) (hu : HeldU u) (w : World) (hT : Tab w) (hI : UnitIn w ta da ea ga u) (n : Int) (hn : RightN u n) :
    Calls Tryz.prog 21 #[.agg (unitV ta tc da dc ea ec ga gc u)] w fun e w' => e = .returned (.int .i64 (if n = 0 then (spanN u.text : Int) else 0)) ∧ Below w.heap.size w w' := by
  have hB0 : Below w.heap.size w (w.alloc (.cells (unitV ta tc da dc ea ec ga gc u) 26)) := below_alloc w _
  have hbx := heap_alloc_new w (.cells (unitV ta tc da dc ea ec ga gc u) 26)
  have hws : (w.alloc (.cells (unitV ta tc da dc ea ec ga gc u) 26)).heap.size = w.heap.size + 1 := by simp
  obtain ⟨c0, c1, c2, c3⟩ := four_read hbx
  have hI0 := hI.below hB0
  have hr := Hid.intro (unitRight_is ta tc da dc ea ec ga gc u hu _ (hT.alloc _) hI0 n hn)
  have hcell : Hid (∀ w1, Below (w.alloc (.cells (unitV ta tc da dc ea ec ga gc u) 26)).heap.size (w.alloc (.cells (unitV ta tc da dc ea ec ga gc u) 26)) w1 → w1.cell? ⟨w.heap.size, 0, none⟩ = some (.slice ta u.text.length tc) ∧ Below w.heap.size w w1) := fun w1 h1 => ⟨(four_read ((h1.block w.heap.size (by omega)).trans hbx)).1, hB0.trans (h1.mono hB0.size)⟩
  have hIH := Hid.intro hI.text
  have hTH := Hid.intro hT
  have hh1 := hu.text.1
  clear hbx hB0 hT hI hI0 hn hu
  obtain ⟨n0, hn0⟩ : ∃ n0, n0 = u.text.length := ⟨_, rfl⟩
  by_cases h0 : n = 0
  · subst h0
    rw [if_pos rfl]
    go_enter Tryz.func21, Tryz.ntmps21
    go_upto_region 4 with (go_at_call 14; (with_reducible refine (hr.out).mono ?_); rintro e w1 ⟨rfl, hb1⟩; obtain ⟨x0, hB1⟩ := hcell.out w1 hb1; replace hB1 := Hid.intro hB1; clear hb1)
    all_goals first | omega | skip
    clear c0 c1 c2 c3 hr hcell
    rw [← hn0] at x0 hh1
    replace hn0 := Hid.intro hn0
    go_wp2
    all_goals first | omega | skip
    clear x0
    go_loopw [3, 12] (fun v3 v12 wr => ∃ i : Nat, i ≤ n0 ∧ v3 = .int .i64 (spanN (u.text.take i) : Int) ∧ v12 = .int .i64 (i : Int) ∧ Hid (Below w.heap.size w wr)) (fun v3 v12 wr => n0 - (intOf v12).toNat)
    case atStart => exact ⟨0, by omega, rfl, rfl, hB1⟩
    case round =>
      clear hB1
      obtain ⟨i, hi, rfl, rfl, hB⟩ := hrel
      by_cases hlt : i < n0
      · obtain ⟨x, hx⟩ : ∃ x, u.text[i]? = some x := ⟨u.text[i]'(by rw [← hn0.out]; exact hlt), List.getElem?_eq_getElem _⟩
        rcases hIH.out.below hB.out with h0 | ⟨g, o, rfl, hg, hat⟩
        · rw [h0] at hx; simp at hx
        obtain ⟨va, vc, hI, hTm⟩ := hat i x hx
        obtain ⟨c0, c1, c2, c3, c4, c5, c6, c7, c8, c9⟩ := hI
        have hlt2 : (i : Int) < (n0 : Int) := by omega
        have hnext := Hid.intro (spanN_take u.text i x hx)
        have hsl : spanN (u.text.take i) ≤ i := Nat.le_trans (spanN_len _) (by rw [List.length_take]; omega)
        have hbx := heap_alloc_new wr (.cells (itmCells x (.slice va x.e.terms.length vc)) 91)
        obtain ⟨b0, b1, b2, b3, b4, b5, b6, b7, b8, b9⟩ := rowIt hbx
        have hB1 : Hid (Below w.heap.size w (wr.alloc (.cells (itmCells x (.slice va x.e.terms.length vc)) 91))) := hB.out.alloc hB.out.size _
        have hTr := (hTH.out.below hB.out hTH.out.size).alloc (.cells (itmCells x (.slice va x.e.terms.length vc)) 91)
        have hsp := Hid.intro (spansOp_any x.op _ hTr)
        clear hbx hx hTm hat hg hTr
        generalize x.e.terms.length = ln at *
        generalize spanN (u.text.take i) = sn at *
        by_cases hk : x.kind = 2
        · have e1 : (x.kind == 2) = true := by simpa using hk
          rw [e1, Bool.true_and] at hnext
          clear hk
          generalize spansB (shapeN x.op) = sb at hsp hnext
          cases sb with
          | true =>
            go_wp2_with (go_at_call 54; (with_reducible refine (hsp.out).mono ?_); rintro e w1 ⟨rfl, hb1⟩)
            all_goals first | omega | skip
            go_roundw
            case rel => exact ⟨i + 1, by omega, by rw [hnext.out]; go_num, by go_num, hB1.out.trans (hb1.mono hB1.out.size)⟩
            case measure => simp [intOf]; omega
          | false =>
            go_wp2_with (go_at_call 54; (with_reducible refine (hsp.out).mono ?_); rintro e w1 ⟨rfl, hb1⟩)
            all_goals first | omega | skip
            go_roundw
            case rel => exact ⟨i + 1, by omega, by rw [hnext.out]; simp, by go_num, hB1.out.trans (hb1.mono hB1.out.size)⟩
            case measure => simp [intOf]; omega
        · have e1 : (x.kind == 2) = false := by simpa using hk
          rw [e1, Bool.false_and] at hnext
          clear hk
          go_wp2
          all_goals first | omega | skip
          go_roundw
          case rel => exact ⟨i + 1, by omega, by rw [hnext.out]; simp, by go_num, hB1⟩
          case measure => simp [intOf]; omega
      · obtain rfl : i = n0 := by omega
        have hlt3 : ¬ ((i : Int) < (i : Int)) := by omega
        have e0 : Hid (u.text.take i = u.text) := by show _ = _; rw [hn0.out, List.take_length]
        generalize hsn : spanN (u.text.take i) = sn at *
        rw [e0.out] at hsn
        replace hsn := Hid.intro hsn
        go_wp2
        all_goals first | omega | skip
        go_ret
        rw [hsn.out]
        exact ⟨rfl, hB.out⟩
  · rw [if_neg h0]
    have e0 : (n == 0) = false := by simpa using h0
    clear h0
    go_enter Tryz.func21, Tryz.ntmps21
    go_wp2_with (go_at_call 14; (with_reducible refine (hr.out).mono ?_); rintro e w1 ⟨rfl, hb1⟩; obtain ⟨x0, hB1⟩ := hcell.out w1 hb1; replace hB1 := Hid.intro hB1; clear hb1)
    all_goals first | omega | skip
    go_ret
    exact ⟨rfl, hB1.out⟩
end Go.Proofs.YtogkchgjpflmjaaGreatDoor
namespace Go.Proofs.YtogkchgjpflmjaaGreatDoor
open Go.Sort
set_option linter.unusedVariables false
set_option maxRecDepth 100000
theorem readF_items {s : List UInt8} {args : List (List Tok)} {sec : Int} {t : Thg} (h : readF s args sec = .ok t) : ∀ x ∈ t.items, x.kind ≠ 1 := by
  have hsing : ∀ {k m}, k ≠ 1 → singThg k m args sec = .ok t → ∀ x ∈ t.items, x.kind ≠ 1 := fun {k m} hk h => by
    unfold singThg at h
    split at h
    · cases h
    · split at h
      · cases h
      · rename_i x hx
        rw [(standsT_ok h).1]
        intro y hy
        simp at hy
        subst hy
        cases args with
        | nil => cases hx; exact hk
        | cons a r => rw [itOf_kind hx]; exact hk
  have hsev : ∀ {k}, k ≠ 1 → sevThg k args sec = .ok t → ∀ x ∈ t.items, x.kind ≠ 1 := fun {k} hk h => by
    unfold sevThg at h
    split at h
    · cases h
    · split at h
      · cases h
      · rename_i l hx
        rw [(standsT_ok h).1]
        intro y hy
        rw [(itsF_kind hx).2 y hy]
        exact hk
  have hnil : t.items = [] → ∀ x ∈ t.items, x.kind ≠ 1 := fun e x hx => by rw [e] at hx; cases hx
  have hequ : equThg args = .ok t → t.items = [] := fun h => by
    unfold equThg at h
    split at h
    · unfold equF at h
      split at h
      · cases h
      · split at h
        · cases h
        · cases h; rfl
    · cases h
  have hglo : gloThg args = .ok t → t.items = [] := fun h => by
    unfold gloThg at h
    split at h
    · unfold gloF at h
      split at h
      · cases h
      · cases h; rfl
    · cases h
  have hsec : secThg args = .ok t → t.items = [] := fun h => by
    unfold secThg at h
    split at h
    · unfold secF at h
      split at h
      · cases h; rfl
      · split at h
        · cases h; rfl
        · cases h
    · cases h
  have hop : opThg s args sec = .ok t → ∀ x ∈ t.items, x.kind ≠ 1 := fun h => by
    unfold opThg at h
    split at h
    · cases h
    · split at h
      · cases h
      · rename_i x hx
        split at h
        · cases h
          intro y hy
          simp at hy
          subst hy
          rw [opF_kind hx]
          show (2 : Int) ≠ 1
          decide
        · cases h
  unfold readF at h
  repeat' split at h
  all_goals first
    | exact hsing (by decide) h | exact hsev (by decide) h | exact hnil (hequ h) | exact hnil (hglo h) | exact hnil (hsec h) | exact hop h | (cases h; intro x hx; cases hx) | cases h
theorem readF_more {s : List UInt8} {args : List (List Tok)} {sec : Int} {t : Thg} (hf : FewA args) (h : readF s args sec = .ok t) : (t.kind = 3 → okE (t.name, t.e) = true ∧ HeldE (t.name, t.e)) ∧ (t.kind = 5 → t.sec = 0 ∨ t.sec = 1) := by
  have hk : ∀ {k : Int}, t.kind = k → k ≠ 3 → k ≠ 5 → (t.kind = 3 → okE (t.name, t.e) = true ∧ HeldE (t.name, t.e)) ∧ (t.kind = 5 → t.sec = 0 ∨ t.sec = 1) := fun e h3 h5 => ⟨fun h => absurd (e.symm.trans h) h3, fun h => absurd (e.symm.trans h) h5⟩
  have hsing : ∀ {k m}, singThg k m args sec = .ok t → t.kind = 1 := fun {k m} h => by
    unfold singThg at h
    split at h
    · cases h
    · split at h
      · cases h
      · rw [(standsT_ok h).1]
  have hsev : ∀ {k}, sevThg k args sec = .ok t → t.kind = 2 := fun {k} h => by
    unfold sevThg at h
    split at h
    · cases h
    · split at h
      · cases h
      · rw [(standsT_ok h).1]
  have hequ : equThg args = .ok t → okE (t.name, t.e) = true ∧ HeldE (t.name, t.e) ∧ t.kind = 3 := fun h => by
    unfold equThg at h
    split at h
    · rename_i a0 a1
      unfold equF at h
      split at h
      · cases h
      · rename_i nm hn
        split at h
        · cases h
        · rename_i y hy
          cases h
          have hleg := nameF_leg hn
          have hg := (parseF_good hy).2
          have ha := hf _ (List.mem_cons_of_mem _ (List.mem_singleton.2 rfl))
          refine ⟨?_, ⟨by have := leg_short hleg; show nm.length ≤ _; omega, by show y.terms.length ≤ _; omega, fun t ht => by have := leg_short (parseF_leg hy t ht); omega⟩, rfl⟩
          unfold okE
          rw [hleg, parseF_right hy]
          rfl
    · cases h
  have hglo : gloThg args = .ok t → t.kind = 4 := fun h => by
    unfold gloThg at h
    split at h
    · unfold gloF at h
      split at h
      · cases h
      · cases h; rfl
    · cases h
  have hsec : secThg args = .ok t → t.kind = 5 ∧ (t.sec = 0 ∨ t.sec = 1) := fun h => by
    unfold secThg at h
    split at h
    · unfold secF at h
      split at h
      · cases h; exact ⟨rfl, .inl rfl⟩
      · split at h
        · cases h; exact ⟨rfl, .inr rfl⟩
        · cases h
    · cases h
  have hop : opThg s args sec = .ok t → t.kind = 1 := fun h => by
    unfold opThg at h
    split at h
    · cases h
    · split at h
      · cases h
      · split at h
        · cases h; rfl
        · cases h
  unfold readF at h
  repeat' split at h
  all_goals first
    | exact hk (hsing h) (by decide) (by decide)
    | exact hk (hsev h) (by decide) (by decide)
    | exact ⟨fun _ => ⟨(hequ h).1, (hequ h).2.1⟩, fun e => absurd ((hequ h).2.2.symm.trans e) (by decide)⟩
    | exact hk (hglo h) (by decide) (by decide)
    | exact ⟨fun e => absurd ((hsec h).1.symm.trans e) (by decide), fun _ => (hsec h).2⟩
    | exact hk (hop h) (by decide) (by decide)
    | (cases h; exact hk (k := 0) rfl (by decide) (by decide))
    | cases h
theorem lineU_more {s : List UInt8} {sec : Int} {lb : List UInt8} {x : Thg} (hs : s.length ≤ 65536) (h : lineU s sec = .ok (lb, x)) : (∀ y ∈ x.items, y.kind ≠ 1) ∧ (x.kind = 3 → okE (x.name, x.e) = true ∧ HeldE (x.name, x.e)) ∧ (x.kind = 5 → x.sec = 0 ∨ x.sec = 1) := by
  unfold lineU at h
  cases hp : parseL s with
  | error q => rw [hp] at h; cases h
  | ok L =>
    rw [hp] at h
    simp only at h
    split at h
    · cases h
    · cases hr : readF L.op L.args sec with
      | error q => rw [hr] at h; cases h
      | ok y =>
        rw [hr] at h
        cases h
        exact ⟨readF_items hr, readF_more (parseL_smallP hs hp).2.2 hr⟩
def AsmNames (A : Asm) : List (List UInt8) := labN A.text ++ labN A.data ++ A.equs.map (·.1)
structure AsmG (A : Asm) : Prop where
  text : ∀ x ∈ A.text, okI x 0 = true ∧ FineI x
  data : ∀ x ∈ A.data, okI x 1 = true ∧ FineI x
  equs : ∀ q ∈ A.equs, okE q = true ∧ HeldE q
  names : ∀ s, (AsmNames A).count s = A.given.count s
  once : A.given.Nodup
  sec : A.sec = 0 ∨ A.sec = 1
theorem asmE_G : AsmG asmE := ⟨fun x h => (by cases h), fun x h => (by cases h), fun x h => (by cases h), fun s => rfl, List.nodup_nil, .inl rfl⟩
theorem lab_ok {lb : List UInt8} (h : legB (str lb) = true) (sec : Int) : okI (labI lb) sec = true ∧ FineI (labI lb) := by
  have := leg_short h
  refine ⟨?_, ⟨by simp [labI, itmE], by simp [labI, itmE], by show lb.length ≤ _; omega, by simp [labI, itmE, linE], fun t ht => by cases ht⟩⟩
  unfold okI okB labI
  show (standsB 1 sec && (nameB 1 (str lb) && (instB 1 0 0 0 0 0 && (exprB (hasEB 1 0) [] 0 && numOfB 1 0)))) = true
  have h1 : standsB 1 sec = true := by unfold standsB; rw [if_pos (.inl rfl)]
  have h2 : nameB 1 (str lb) = true := by unfold nameB; rw [if_pos rfl]; exact h
  rw [h1, h2]
  rfl
theorem labN_append (a b : List Itm) : labN (a ++ b) = labN a ++ labN b := by unfold labN; simp
theorem labN_none {l : List Itm} (h : ∀ y ∈ l, y.kind ≠ 1) : labN l = [] := by
  unfold labN
  rw [List.filter_eq_nil_iff.2 (fun y hy => by simpa using h y hy)]
  rfl
theorem labN_labF (lb : List UInt8) : labN (labF lb) = if lb = [] then [] else [lb] := by
  unfold labF
  split
  · rfl
  · rfl
theorem nameU_some {g g' : List (List UInt8)} {s : List UInt8} (h : nameU g s = some g') : g' = g ++ (if s = [] then [] else [s]) := by
  unfold nameU at h
  split at h
  · rename_i h0; cases h; rw [if_pos h0]; simp
  · rename_i h0
    split at h
    · cases h
    · cases h; rw [if_neg h0]
theorem takeF_G {A B : Asm} {n : Nat} {s : List UInt8} (hs : s.length ≤ 65536) (hA : AsmG A) (h : takeF A n s = .ok B) : AsmG B := by
  obtain ⟨lb, x, g1, g2, hl, h1, h2, hc, rfl⟩ := takeF_ok h
  obtain ⟨hf, hlb⟩ := lineU_fine hs hl
  obtain ⟨hm1, hm2, hm3⟩ := lineU_more hs hl
  have hits : ∀ y ∈ labF lb ++ x.items, okI y A.sec = true ∧ FineI y := fun y hy => by
    rcases List.mem_append.1 hy with hy | hy
    · unfold labF at hy
      split at hy
      · cases hy
      · rename_i h0
        simp at hy
        subst hy
        exact lab_ok (hlb.resolve_left h0) A.sec
    · exact hf.items y hy
  have hlab : labN (labF lb ++ x.items) = if lb = [] then [] else [lb] := by rw [labN_append, labN_labF, labN_none hm1, List.append_nil]
  have e1 := nameU_some h1
  have n1 := nameU_nodup h1 hA.once
  have hne : x.kind = 3 → x.name ≠ [] := fun hk => leg_ne (by have := (hm2 hk).1; unfold okE at this; exact (Bool.and_eq_true_iff.1 this).1)
  have hgiven : g2 = A.given ++ (if lb = [] then [] else [lb]) ++ (if x.kind = 3 then [x.name] else []) := by
    by_cases hk : x.kind = 3
    · rw [if_pos hk] at h2 ⊢
      rw [nameU_some h2, if_neg (hne hk), e1]
    · rw [if_neg hk] at h2 ⊢
      cases h2
      rw [e1, List.append_nil]
  have n2 : g2.Nodup := by
    by_cases hk : x.kind = 3
    · rw [if_pos hk] at h2; exact nameU_nodup h2 n1
    · rw [if_neg hk] at h2; cases h2; exact n1
  have hnm := hA.names
  unfold AsmNames at hnm
  refine ⟨fun y hy => ?_, fun y hy => ?_, fun q hq => ?_, fun t => ?_, n2, ?_⟩
  · unfold layU at hy
    by_cases h5 : A.sec = 1
    · simp only [h5, if_true] at hy; exact hA.text y hy
    · simp only [h5, if_false] at hy
      rcases List.mem_append.1 hy with hy | hy
      · exact hA.text y hy
      · have := hits y hy; rwa [hA.sec.resolve_right h5] at this
  · unfold layU at hy
    by_cases h5 : A.sec = 1
    · simp only [h5, if_true] at hy
      rcases List.mem_append.1 hy with hy | hy
      · exact hA.data y hy
      · have := hits y hy; rwa [h5] at this
    · simp only [h5, if_false] at hy; exact hA.data y hy
  · unfold layU at hq
    by_cases hk : x.kind = 3
    · simp only [hk, if_true] at hq
      rcases List.mem_append.1 hq with hq | hq
      · exact hA.equs q hq
      · rw [List.mem_singleton] at hq; subst hq; exact hm2 hk
    · simp only [hk, if_false] at hq; exact hA.equs q hq
  · have ht := hnm t
    rw [hgiven]
    generalize labF lb ++ x.items = its at hlab
    generalize (if lb = [] then [] else [lb]) = LL at hlab
    simp only [List.count_append] at ht
    have e5 : ∀ g, (AsmNames (layU A n g its x)).count t = (labN A.text).count t + (labN A.data).count t + LL.count t + (A.equs.map (·.1)).count t + (if x.kind = 3 then [x.name] else []).count t := by
      intro g
      unfold AsmNames layU
      by_cases h5 : A.sec = 1 <;> by_cases hk : x.kind = 3
      · simp only [h5, hk, if_true, labN_append, hlab, List.map_append, List.count_append, List.map_cons, List.map_nil]; omega
      · simp only [h5, hk, if_true, if_false, labN_append, hlab, List.count_append, List.count_nil]; omega
      · simp only [h5, hk, if_true, if_false, labN_append, hlab, List.map_append, List.count_append, List.map_cons, List.map_nil]; omega
      · simp only [h5, hk, if_false, labN_append, hlab, List.count_append, List.count_nil]; omega
    rw [e5]
    show _ = List.count t (A.given ++ LL ++ _)
    simp only [List.count_append]
    omega
  · unfold layU
    by_cases hk : x.kind = 5
    · simp only [hk, if_true]; exact hm3 hk
    · simp only [hk, if_false]; exact hA.sec
theorem runP_G (pre : List LnA) : ∀ A B, AsmG A → runP A pre = .ok B → AsmG B := by
  induction pre with
  | nil => intro A B hA h; cases h; exact hA
  | cons x r ih =>
    intro A B hA h
    simp only [runP] at h
    cases ht : takeF A x.1.1 (bs x.1.2) with
    | error e => rw [ht] at h; cases h
    | ok C =>
      rw [ht] at h
      exact ih C B (takeF_G (by rw [bs_length]; exact x.2) hA ht) h
def uvA (A : Asm) : UVal := ⟨A.text, A.data, A.equs, globF A⟩
theorem once_twice {l : List (List UInt8)} (h : l.Nodup) : ¬ Twice l := by
  rintro ⟨i, s, h1, h2⟩
  obtain ⟨hi, e1⟩ := List.getElem?_eq_some_iff.1 h1
  obtain ⟨hj, e2⟩ := List.getElem?_eq_some_iff.1 h2
  have := (List.nodup_iff_pairwise_ne.1 h)
  exact (List.pairwise_iff_getElem.1 this) i (i + 1) hi hj (by omega) (e1.trans e2.symm)
theorem compUp_mem (d : Array (List UInt8)) : ∀ m, m ≤ d.size → ∀ s, s ∈ Lib.compactUpTo d m → ∃ j, j < m ∧ d[j]? = some s := by
  intro m hm s hs
  unfold Lib.compactUpTo at hs
  obtain ⟨j, hj, rfl⟩ := List.mem_map.1 hs
  have hjm := List.mem_range.1 (List.mem_filter.1 hj).1
  refine ⟨j, hjm, ?_⟩
  rw [Array.getElem?_eq_getElem (by omega), getElem!_pos d j (by omega)]
theorem compact_mem {zs : List (List UInt8)} {s : List UInt8} (h : s ∈ Lib.compact zs) : s ∈ zs := by
  obtain ⟨j, hj, e⟩ := compUp_mem zs.toArray zs.length (by simp) s h
  rw [List.getElem?_toArray] at e
  exact List.mem_of_getElem? e
theorem compUp_rise (zs : List (List UInt8)) (hR : Rise zs) : ∀ m, m ≤ zs.length → (Lib.compactUpTo zs.toArray m).Pairwise (fun x y => nlt x y = true) ∧ (∀ s ∈ Lib.compactUpTo zs.toArray m, ∀ x, 0 < m → zs[m - 1]? = some x → nlt x s = false) := by
  intro m
  induction m with
  | zero => intro _; exact ⟨by simp [Lib.compactUpTo], fun s hs => by simp [Lib.compactUpTo] at hs⟩
  | succ m ih =>
    intro hm
    obtain ⟨h1, h2⟩ := ih (by omega)
    have hx : zs[m]? = some (zs[m]'(by omega)) := List.getElem?_eq_getElem _
    have hd : zs.toArray[m]! = zs[m]'(by omega) := by rw [getElem!_pos zs.toArray m (by simp; omega)]; simp
    generalize hxv : zs[m]'(by omega) = x at hx hd
    have hold : ∀ s ∈ Lib.compactUpTo zs.toArray m, nlt x s = false := fun s hs => by
      rcases Nat.eq_zero_or_pos m with h0 | h0
      · subst h0; simp [Lib.compactUpTo] at hs
      · have hp : zs[m - 1]? = some (zs[m - 1]'(by omega)) := List.getElem?_eq_getElem _
        exact nlt_le_trans (h2 s hs _ h0 hp) (rise_get hR (by omega) hp hx)
    rw [Lib.compactUpTo_succ, hd]
    by_cases hk : Lib.keeps zs.toArray m = true
    · rw [if_pos hk]
      refine ⟨List.pairwise_append.2 ⟨h1, by simp, fun s hs y hy => ?_⟩, fun s hs y _ hy => ?_⟩
      · rw [List.mem_singleton] at hy
        rw [hy]
        rcases nlt_tri s x with h | h | h
        · exact h
        · exfalso
          rw [← h] at hx hd
          rcases Nat.eq_zero_or_pos m with h0 | h0
          · subst h0; simp [Lib.compactUpTo] at hs
          · have hp : zs[m - 1]? = some (zs[m - 1]'(by omega)) := List.getElem?_eq_getElem _
            have a1 := h2 s hs _ h0 hp
            have a2 := rise_get hR (by omega) hp hx
            have heq : zs[m - 1]'(by omega) = s := by
              rcases nlt_tri (zs[m - 1]'(by omega)) s with g | g | g
              · rw [g] at a1; cases a1
              · exact g
              · rw [g] at a2; cases a2
            have hdd : zs.toArray[m - 1]! = s := by rw [getElem!_pos zs.toArray (m - 1) (by simp; omega)]; simpa using heq
            simp [Lib.keeps, hd, hdd] at hk
            omega
        · rw [hold s hs] at h; cases h
      · have e : y = x := by
          rw [show m + 1 - 1 = m by omega, hx] at hy
          exact (Option.some.inj hy).symm
        subst e
        rcases List.mem_append.1 hs with hs | hs
        · exact hold s hs
        · rw [List.mem_singleton] at hs; subst hs; exact nlt_irrefl _
    · rw [if_neg hk, List.append_nil]
      refine ⟨h1, fun s hs y _ hy => ?_⟩
      have e : y = x := by
        rw [show m + 1 - 1 = m by omega, hx] at hy
        exact (Option.some.inj hy).symm
      subst e
      exact hold s hs
theorem asm_right {A : Asm} {k : Nat} (hG : AsmG A) (hB : AsmB A k) (hk : k ≤ 8192) (hU : unknownF A = none) : RightU (uvA A) ∧ RightN (uvA A) 0 := by
  have hperm : (uvA A).names.Perm A.given := List.perm_iff_count.2 hG.names
  have hnd : (uvA A).names.Nodup := hperm.nodup_iff.2 hG.once
  have hR : RightU (uvA A) := by
    refine ⟨List.all_eq_true.2 fun x hx => (hG.text x hx).1, List.all_eq_true.2 fun x hx => (hG.data x hx).1, List.all_eq_true.2 fun x hx => (hG.equs x hx).1, once_twice ((sortS_perm _).nodup_iff.2 hnd), ?_, ?_⟩
    · intro i p g hp hg
      have h := (compUp_rise (sortS (A.asked.map (·.1))) (sortS_rise _) _ (Nat.le_refl _)).1
      obtain ⟨hi, rfl⟩ := List.getElem?_eq_some_iff.1 hp
      obtain ⟨hj, rfl⟩ := List.getElem?_eq_some_iff.1 hg
      exact (List.pairwise_iff_getElem.1 h) i (i + 1) hi hj (by omega)
    · intro g hg
      have h1 := (sortS_mem _ _).1 (compact_mem hg)
      obtain ⟨q, hq, rfl⟩ := List.mem_map.1 h1
      rw [sortS_mem, hperm.mem_iff]
      unfold unknownF at hU
      rw [Option.map_eq_none_iff, List.find?_eq_none] at hU
      have := hU q hq
      simpa using this
  refine ⟨hR, .inr ⟨?_, .inl ⟨hR, rfl⟩⟩⟩
  rintro (h | h)
  · have := hB.few
    have h' : 8192 < A.text.length + A.data.length := h
    omega
  · have := hB.equs
    have h' : 8192 < A.equs.length := h
    omega
theorem compact_len (zs : List (List UInt8)) : (Lib.compact zs).length ≤ zs.length := Lib.compact_length_le zs
theorem asm_held {A : Asm} {k : Nat} (hG : AsmG A) (hB : AsmB A k) (hk : k ≤ 8192) : HeldU (uvA A) := by
  have h1 := hB.few
  have h2 := hB.equs
  have h3 := hB.asked
  have h4 : (globF A).length ≤ A.asked.length := by
    unfold globF
    have := compact_len (sortS (A.asked.map (·.1)))
    rw [sortS_len, List.length_map] at this
    exact this
  exact ⟨⟨by show A.text.length ≤ _; omega, fun x hx => (hG.text x hx).2.held⟩, ⟨by show A.data.length ≤ _; omega, fun x hx => (hG.data x hx).2.held⟩, ⟨by show A.equs.length ≤ _; omega, fun x hx => (hG.equs x hx).2⟩, by show (globF A).length ≤ _; omega⟩
theorem asmF_ok {l : List UInt8} {A : Asm} (h : asmF l = .ok A) : AsmG A ∧ AsmB A 4096 ∧ unknownF A = none := by
  unfold asmF at h
  split at h
  · cases h
  · rename_i h1
    split at h
    · cases h
    · rename_i h2
      cases hr : runF asmE 1 (linesOf l) with
      | error f => rw [hr] at h; cases h
      | ok B =>
        rw [hr] at h
        simp only at h
        cases hu : unknownF B with
        | some n => rw [hu] at h; cases h
        | none =>
          rw [hu] at h
          cases h
          rw [← runP_numbered _ (linesOf_short l (by omega))] at hr
          refine ⟨runP_G _ _ _ asmE_G hr, ?_, hu⟩
          have := runP_B _ _ _ 0 asmE_B hr
          rw [numbered_len] at this
          exact ⟨this.few, by have := this.equs; omega, by have := this.asked; omega, this.names⟩
end Go.Proofs.YtogkchgjpflmjaaGreatDoor
