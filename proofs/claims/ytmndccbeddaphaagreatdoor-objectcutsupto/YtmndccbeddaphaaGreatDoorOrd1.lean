/- object's reader in memory: refused, refuse, number, text. -/
import Derived.Test.YtmndccbeddaphaaGreatDoorUGl
import Derived.Test.YtmndccbeddaphaaGreatDoorOcText
import Derived.Deep.QuietTactic
import Derived.BigQuiet
import Derived.WalkSmall
import Derived.WalkSpells
/- unit's Right and Spans. -/
namespace Go.Proofs.YtmndccbeddaphaaGreatDoor
open Go.ChangeShapes Go.WideShapes Go.ChangeAt Go.RowKit Go.Sort
set_option linter.unusedVariables false
set_option maxRecDepth 100000

/-- is a unit right, but for how many there are? -/
structure RightU (u : UVal) : Prop where
  text : (u.text.all fun x => okI x 0) = true
  data : (u.data.all fun x => okI x 1) = true
  equs : u.equs.all okE = true
  once : ¬ Twice (sortS u.names)
  globs : GlobOk u.globs (sortS u.names)

/-- what Right answers -/
def RightN (u : UVal) (n : Int) : Prop := (8192 < u.text.length + u.data.length ∨ 8192 < u.equs.length) ∧ n = 4 ∨ ¬ (8192 < u.text.length + u.data.length ∨ 8192 < u.equs.length) ∧ (RightU u ∧ n = 0 ∨ ¬ RightU u ∧ n = 31)

set_option maxHeartbeats 8000000 in
theorem unitRight_any (ta : Option Addr) (tc : Nat) (da : Option Addr) (dc : Nat) (ea : Option Addr) (ec : Nat) (ga : Option Addr) (gc : Nat) (u : UVal) (hu : HeldU u) (w : World) (hT : Tab w) (hI : UnitIn w ta da ea ga u) :
    Calls Tryz.prog 27 #[.agg (unitV ta tc da dc ea ec ga gc u)] w fun e w' => (∃ n : Int, e = .returned (.int .i64 n) ∧ RightN u n) ∧ Below w.heap.size w w' := by
  have hB0 : Below w.heap.size w (w.alloc (.cells (unitV ta tc da dc ea ec ga gc u) 30)) := below_alloc w _
  have hbx := heap_alloc_new w (.cells (unitV ta tc da dc ea ec ga gc u) 30)
  have hws : (w.alloc (.cells (unitV ta tc da dc ea ec ga gc u) 30)).heap.size = w.heap.size + 1 := by simp
  have hcells : Hid (∀ w1, Below (w.alloc (.cells (unitV ta tc da dc ea ec ga gc u) 30)).heap.size (w.alloc (.cells (unitV ta tc da dc ea ec ga gc u) 30)) w1 → w1.cell? ⟨w.heap.size, 0, none⟩ = some (.slice ta u.text.length tc) ∧ w1.cell? ⟨w.heap.size, 1, none⟩ = some (.slice da u.data.length dc) ∧ w1.cell? ⟨w.heap.size, 2, none⟩ = some (.slice ea u.equs.length ec) ∧ w1.cell? ⟨w.heap.size, 3, none⟩ = some (.slice ga u.globs.length gc)) := fun w1 h1 => four_read ((h1.block w.heap.size (by omega)).trans hbx)
  obtain ⟨c0, c1, c2, c3⟩ := four_read hbx
  have hI0 := Hid.intro (hI.below hB0)
  have hT0 := Hid.intro (hT.alloc (.cells (unitV ta tc da dc ea ec ga gc u) 30))
  have hh1 := hu.text.1
  have hh2 := hu.data.1
  have hh3 := hu.equs.1
  have q1 : wrap64 ((u.text.length : Int) + (u.data.length : Int)) = (u.text.length : Int) + (u.data.length : Int) := by unfold wrap64; omega
  have hB0H := Hid.intro hB0
  clear hbx hB0 hT
  by_cases hm1 : 8192 < u.text.length + u.data.length
  · have p1 : decide ((8192 : Int) < (u.text.length : Int) + (u.data.length : Int)) = true := by simp; omega
    go_enter Tryz.func27, Tryz.ntmps27
    go_wp2
    all_goals first | omega | skip
    go_ret
    exact ⟨⟨4, rfl, .inl ⟨.inl hm1, rfl⟩⟩, hB0H.out⟩
  have p1 : decide ((8192 : Int) < (u.text.length : Int) + (u.data.length : Int)) = false := by simp; omega
  by_cases hm2 : 8192 < u.equs.length
  · have p2 : decide ((8192 : Int) < (u.equs.length : Int)) = true := by simp; omega
    go_enter Tryz.func27, Tryz.ntmps27
    go_wp2
    all_goals first | omega | skip
    go_ret
    exact ⟨⟨4, rfl, .inl ⟨.inr hm2, rfl⟩⟩, hB0H.out⟩
  have p2 : decide ((8192 : Int) < (u.equs.length : Int)) = false := by simp; omega
  have hno : Hid (¬ (8192 < u.text.length + u.data.length ∨ 8192 < u.equs.length)) := by rintro (h | h); exact hm1 h; exact hm2 h
  have r1 := Hid.intro (rightItems_any ta tc u.text 0 (.inl rfl) hu.text.1 hu.text.2 _ hT0.out hI0.out.text)
  have r2 := Hid.intro (fun w1 (hb : Below (w.alloc (.cells (unitV ta tc da dc ea ec ga gc u) 30)).heap.size (w.alloc (.cells (unitV ta tc da dc ea ec ga gc u) 30)) w1) => rightItems_any da dc u.data 1 (.inr rfl) hu.data.1 hu.data.2 w1 (hT0.out.below hb hT0.out.size) (hI0.out.data.below hb))
  have r3 := Hid.intro (fun w1 (hb : Below (w.alloc (.cells (unitV ta tc da dc ea ec ga gc u) 30)).heap.size (w.alloc (.cells (unitV ta tc da dc ea ec ga gc u) 30)) w1) => rightEqus_any ea ec u.equs hu.equs.1 hu.equs.2 w1 (hI0.out.equs.below hb))
  have r4 := Hid.intro (fun w1 (hb : Below (w.alloc (.cells (unitV ta tc da dc ea ec ga gc u) 30)).heap.size (w.alloc (.cells (unitV ta tc da dc ea ec ga gc u) 30)) w1) => sortedNames_any ta tc da dc ea ec ga gc u hu w1 (hI0.out.below hb))
  have hnl : (sortS u.names).length ≤ 9000000 := by
    rw [sortS_len]
    have h1 := labN_len u.text
    have h2 := labN_len u.data
    unfold UVal.names
    simp
    omega
  have r5 := Hid.intro (fun a' c' w1 lo (ho : w1.ownsRow lo 9 1 (.slice a' (sortS u.names).length c') (sortS u.names).length ((sortS u.names).map encStr)) => hasTwice_any a' c' (sortS u.names) hnl w1 (own_stIn ho))
  have hg9 : u.globs.length ≤ 9000000 := by have := hu.globs; omega
  have r6 := Hid.intro (fun a' c' w2 (hb : Below (w.alloc (.cells (unitV ta tc da dc ea ec ga gc u) 30)).heap.size (w.alloc (.cells (unitV ta tc da dc ea ec ga gc u) 30)) w2) (hS : StIn w2 a' (sortS u.names)) => rightGlobals_any ga gc u.globs a' c' (sortS u.names) hg9 hnl (sortS_rise _) w2 (hI0.out.globs.below hb) hS)
  clear hm1 hm2 hI hu hnl hg9
  cases hTb : u.text.all fun x => okI x 0 with
  | false =>
    rw [hTb] at r1
    have hbad : Hid (¬ RightU u) := fun h => by have := h.text; rw [hTb] at this; cases this
    clear hTb
    go_enter Tryz.func27, Tryz.ntmps27
    go_wp2_with (first | (go_at_call 59; (with_reducible refine (r1.out).mono ?_); rintro e w1 ⟨rfl, hb1⟩; have hB1 := Hid.intro hb1; obtain ⟨x10, x11, x12, x13⟩ := hcells.out w1 hB1.out; clear hb1))
    all_goals first | omega | skip
    go_ret
    exact ⟨⟨31, rfl, .inr ⟨hno.out, .inr ⟨hbad.out, rfl⟩⟩⟩, hB0H.out.trans (hB1.out.mono hB0H.out.size)⟩
  | true =>
  rw [hTb] at r1
  cases hDb : u.data.all fun x => okI x 1 with
  | false =>
    rw [hDb] at r2
    have hbad : Hid (¬ RightU u) := fun h => by have := h.data; rw [hDb] at this; cases this
    clear hTb hDb
    go_enter Tryz.func27, Tryz.ntmps27
    go_wp2_with (first | (go_at_call 59; (with_reducible refine (r1.out).mono ?_); rintro e w1 ⟨rfl, hb1⟩; have hB1 := Hid.intro hb1; obtain ⟨x10, x11, x12, x13⟩ := hcells.out w1 hB1.out; clear hb1) | (go_at_call 59; (with_reducible refine (r2.out w1 hB1.out).mono ?_); rintro e w2 ⟨rfl, hb2⟩; have hB2 := Hid.intro (hB1.out.trans (hb2.mono hB1.out.size)); obtain ⟨x20, x21, x22, x23⟩ := hcells.out w2 hB2.out; clear hb2))
    all_goals first | omega | skip
    go_ret
    exact ⟨⟨31, rfl, .inr ⟨hno.out, .inr ⟨hbad.out, rfl⟩⟩⟩, hB0H.out.trans (hB2.out.mono hB0H.out.size)⟩
  | true =>
  rw [hDb] at r2
  cases hEb : u.equs.all okE with
  | false =>
    rw [hEb] at r3
    have hbad : Hid (¬ RightU u) := fun h => by have := h.equs; rw [hEb] at this; cases this
    clear hTb hDb hEb
    go_enter Tryz.func27, Tryz.ntmps27
    go_wp2_with (first | (go_at_call 59; (with_reducible refine (r1.out).mono ?_); rintro e w1 ⟨rfl, hb1⟩; have hB1 := Hid.intro hb1; obtain ⟨x10, x11, x12, x13⟩ := hcells.out w1 hB1.out; clear hb1) | (go_at_call 59; (with_reducible refine (r2.out w1 hB1.out).mono ?_); rintro e w2 ⟨rfl, hb2⟩; have hB2 := Hid.intro (hB1.out.trans (hb2.mono hB1.out.size)); obtain ⟨x20, x21, x22, x23⟩ := hcells.out w2 hB2.out; clear hb2) | (go_at_call 60; (with_reducible refine (r3.out w2 hB2.out).mono ?_); rintro e w3 ⟨rfl, hb3⟩; have hB3 := Hid.intro (hB2.out.trans (hb3.mono hB2.out.size)); obtain ⟨x30, x31, x32, x33⟩ := hcells.out w3 hB3.out; clear hb3))
    all_goals first | omega | skip
    go_ret
    exact ⟨⟨31, rfl, .inr ⟨hno.out, .inr ⟨hbad.out, rfl⟩⟩⟩, hB0H.out.trans (hB3.out.mono hB0H.out.size)⟩
  | true =>
  rw [hEb] at r3
  by_cases hTw : Twice (sortS u.names)
  · have hbad : Hid (¬ RightU u) := fun h => h.once hTw
    replace r5 : Hid (∀ a' c' w1 lo, w1.ownsRow lo 9 1 (.slice a' (sortS u.names).length c') (sortS u.names).length ((sortS u.names).map encStr) → Calls Tryz.prog 62 #[.slice a' (sortS u.names).length c'] w1 fun e w' => e = .returned (.bool true) ∧ Below w1.heap.size w1 w') := fun a' c' w1 lo ho => (r5.out a' c' w1 lo ho).mono fun e w' ⟨⟨bv, h1, h2⟩, h3⟩ => ⟨by rw [h1, show bv = true from h2.2 hTw], h3⟩
    clear hTb hDb hEb hTw
    go_enter Tryz.func27, Tryz.ntmps27
    go_wp2_with (first | (go_at_call 59; (with_reducible refine (r1.out).mono ?_); rintro e w1 ⟨rfl, hb1⟩; have hB1 := Hid.intro hb1; obtain ⟨x10, x11, x12, x13⟩ := hcells.out w1 hB1.out; clear hb1) | (go_at_call 59; (with_reducible refine (r2.out w1 hB1.out).mono ?_); rintro e w2 ⟨rfl, hb2⟩; have hB2 := Hid.intro (hB1.out.trans (hb2.mono hB1.out.size)); obtain ⟨x20, x21, x22, x23⟩ := hcells.out w2 hB2.out; clear hb2) | (go_at_call 60; (with_reducible refine (r3.out w2 hB2.out).mono ?_); rintro e w3 ⟨rfl, hb3⟩; have hB3 := Hid.intro (hB2.out.trans (hb3.mono hB2.out.size)); obtain ⟨x30, x31, x32, x33⟩ := hcells.out w3 hB3.out; clear hb3) | (go_at_call 61; (with_reducible refine (r4.out w3 hB3.out).mono ?_); rintro e w4 ⟨a4, c4, rfl, hN4⟩; have hB4 := Hid.intro (hB3.out.trans (hN4.bel.mono hB3.out.size)); obtain ⟨x40, x41, x42, x43⟩ := hcells.out w4 hB4.out; replace hN4 := Hid.intro hN4) | (go_at_call 62; (with_reducible refine (r5.out a4 c4 w4 _ hN4.out.own).mono ?_); rintro e w5 ⟨rfl, hb5⟩; have hB5 := Hid.intro (hB4.out.trans (hb5.mono hB4.out.size)); obtain ⟨x50, x51, x52, x53⟩ := hcells.out w5 hB5.out; have hS5 := Hid.intro ((own_stIn hN4.out.own).below hb5); clear hb5))
    all_goals first | omega | skip
    go_ret
    exact ⟨⟨31, rfl, .inr ⟨hno.out, .inr ⟨hbad.out, rfl⟩⟩⟩, hB0H.out.trans (hB5.out.mono hB0H.out.size)⟩
  replace r5 : Hid (∀ a' c' w1 lo, w1.ownsRow lo 9 1 (.slice a' (sortS u.names).length c') (sortS u.names).length ((sortS u.names).map encStr) → Calls Tryz.prog 62 #[.slice a' (sortS u.names).length c'] w1 fun e w' => e = .returned (.bool false) ∧ Below w1.heap.size w1 w') := fun a' c' w1 lo ho => (r5.out a' c' w1 lo ho).mono fun e w' ⟨⟨bv, h1, h2⟩, h3⟩ => ⟨by rw [h1, show bv = false from Bool.eq_false_iff.2 fun h => hTw (h2.1 h)], h3⟩
  by_cases hGl : GlobOk u.globs (sortS u.names)
  · have hgood : Hid (RightU u) := ⟨hTb, hDb, hEb, hTw, hGl⟩
    replace r6 : Hid (∀ a' c' w2, Below (w.alloc (.cells (unitV ta tc da dc ea ec ga gc u) 30)).heap.size (w.alloc (.cells (unitV ta tc da dc ea ec ga gc u) 30)) w2 → StIn w2 a' (sortS u.names) → Calls Tryz.prog 63 #[.slice ga u.globs.length gc, .slice a' (sortS u.names).length c'] w2 fun e w' => e = .returned (.bool true) ∧ Below w2.heap.size w2 w') := fun a' c' w2 hb hS => (r6.out a' c' w2 hb hS).mono fun e w' ⟨⟨bv, h1, h2⟩, h3⟩ => ⟨by rw [h1, show bv = true from h2.2 hGl], h3⟩
    clear hTb hDb hEb hTw hGl
    go_enter Tryz.func27, Tryz.ntmps27
    go_wp2_with (first | (go_at_call 59; (with_reducible refine (r1.out).mono ?_); rintro e w1 ⟨rfl, hb1⟩; have hB1 := Hid.intro hb1; obtain ⟨x10, x11, x12, x13⟩ := hcells.out w1 hB1.out; clear hb1) | (go_at_call 59; (with_reducible refine (r2.out w1 hB1.out).mono ?_); rintro e w2 ⟨rfl, hb2⟩; have hB2 := Hid.intro (hB1.out.trans (hb2.mono hB1.out.size)); obtain ⟨x20, x21, x22, x23⟩ := hcells.out w2 hB2.out; clear hb2) | (go_at_call 60; (with_reducible refine (r3.out w2 hB2.out).mono ?_); rintro e w3 ⟨rfl, hb3⟩; have hB3 := Hid.intro (hB2.out.trans (hb3.mono hB2.out.size)); obtain ⟨x30, x31, x32, x33⟩ := hcells.out w3 hB3.out; clear hb3) | (go_at_call 61; (with_reducible refine (r4.out w3 hB3.out).mono ?_); rintro e w4 ⟨a4, c4, rfl, hN4⟩; have hB4 := Hid.intro (hB3.out.trans (hN4.bel.mono hB3.out.size)); obtain ⟨x40, x41, x42, x43⟩ := hcells.out w4 hB4.out; replace hN4 := Hid.intro hN4) | (go_at_call 62; (with_reducible refine (r5.out a4 c4 w4 _ hN4.out.own).mono ?_); rintro e w5 ⟨rfl, hb5⟩; have hB5 := Hid.intro (hB4.out.trans (hb5.mono hB4.out.size)); obtain ⟨x50, x51, x52, x53⟩ := hcells.out w5 hB5.out; have hS5 := Hid.intro ((own_stIn hN4.out.own).below hb5); clear hb5) | (go_at_call 63; (with_reducible refine (r6.out a4 c4 w5 hB5.out hS5.out).mono ?_); rintro e w6 ⟨rfl, hb6⟩; have hB6 := Hid.intro (hB5.out.trans (hb6.mono hB5.out.size)); clear hb6))
    all_goals first | omega | skip
    go_ret
    exact ⟨⟨0, rfl, .inr ⟨hno.out, .inl ⟨hgood.out, rfl⟩⟩⟩, hB0H.out.trans (hB6.out.mono hB0H.out.size)⟩
  · have hbad : Hid (¬ RightU u) := fun h => hGl h.globs
    replace r6 : Hid (∀ a' c' w2, Below (w.alloc (.cells (unitV ta tc da dc ea ec ga gc u) 30)).heap.size (w.alloc (.cells (unitV ta tc da dc ea ec ga gc u) 30)) w2 → StIn w2 a' (sortS u.names) → Calls Tryz.prog 63 #[.slice ga u.globs.length gc, .slice a' (sortS u.names).length c'] w2 fun e w' => e = .returned (.bool false) ∧ Below w2.heap.size w2 w') := fun a' c' w2 hb hS => (r6.out a' c' w2 hb hS).mono fun e w' ⟨⟨bv, h1, h2⟩, h3⟩ => ⟨by rw [h1, show bv = false from Bool.eq_false_iff.2 fun h => hGl (h2.1 h)], h3⟩
    clear hTb hDb hEb hTw hGl
    go_enter Tryz.func27, Tryz.ntmps27
    go_wp2_with (first | (go_at_call 59; (with_reducible refine (r1.out).mono ?_); rintro e w1 ⟨rfl, hb1⟩; have hB1 := Hid.intro hb1; obtain ⟨x10, x11, x12, x13⟩ := hcells.out w1 hB1.out; clear hb1) | (go_at_call 59; (with_reducible refine (r2.out w1 hB1.out).mono ?_); rintro e w2 ⟨rfl, hb2⟩; have hB2 := Hid.intro (hB1.out.trans (hb2.mono hB1.out.size)); obtain ⟨x20, x21, x22, x23⟩ := hcells.out w2 hB2.out; clear hb2) | (go_at_call 60; (with_reducible refine (r3.out w2 hB2.out).mono ?_); rintro e w3 ⟨rfl, hb3⟩; have hB3 := Hid.intro (hB2.out.trans (hb3.mono hB2.out.size)); obtain ⟨x30, x31, x32, x33⟩ := hcells.out w3 hB3.out; clear hb3) | (go_at_call 61; (with_reducible refine (r4.out w3 hB3.out).mono ?_); rintro e w4 ⟨a4, c4, rfl, hN4⟩; have hB4 := Hid.intro (hB3.out.trans (hN4.bel.mono hB3.out.size)); obtain ⟨x40, x41, x42, x43⟩ := hcells.out w4 hB4.out; replace hN4 := Hid.intro hN4) | (go_at_call 62; (with_reducible refine (r5.out a4 c4 w4 _ hN4.out.own).mono ?_); rintro e w5 ⟨rfl, hb5⟩; have hB5 := Hid.intro (hB4.out.trans (hb5.mono hB4.out.size)); obtain ⟨x50, x51, x52, x53⟩ := hcells.out w5 hB5.out; have hS5 := Hid.intro ((own_stIn hN4.out.own).below hb5); clear hb5) | (go_at_call 63; (with_reducible refine (r6.out a4 c4 w5 hB5.out hS5.out).mono ?_); rintro e w6 ⟨rfl, hb6⟩; have hB6 := Hid.intro (hB5.out.trans (hb6.mono hB5.out.size)); clear hb6))
    all_goals first | omega | skip
    go_ret
    exact ⟨⟨31, rfl, .inr ⟨hno.out, .inr ⟨hbad.out, rfl⟩⟩⟩, hB0H.out.trans (hB6.out.mono hB0H.out.size)⟩

theorem rightN_one {u : UVal} {n m : Int} (h : RightN u n) (h' : RightN u m) : n = m := by
  unfold RightN at h h'
  by_cases hc : 8192 < u.text.length + u.data.length ∨ 8192 < u.equs.length
  · rcases h with ⟨_, rfl⟩ | ⟨h1, _⟩
    · rcases h' with ⟨_, rfl⟩ | ⟨h1, _⟩
      · rfl
      · exact absurd hc h1
    · exact absurd hc h1
  · rcases h with ⟨h1, _⟩ | ⟨_, h⟩
    · exact absurd h1 hc
    · rcases h' with ⟨h1, _⟩ | ⟨_, h'⟩
      · exact absurd h1 hc
      · by_cases hr : RightU u
        · rcases h with ⟨_, rfl⟩ | ⟨h1, _⟩
          · rcases h' with ⟨_, rfl⟩ | ⟨h1, _⟩
            · rfl
            · exact absurd hr h1
          · exact absurd hr h1
        · rcases h with ⟨h1, _⟩ | ⟨_, rfl⟩
          · exact absurd h1 hr
          · rcases h' with ⟨h1, _⟩ | ⟨_, rfl⟩
            · exact absurd h1 hr
            · rfl

/-- Right's answer, by its number -/
theorem unitRight_is (ta : Option Addr) (tc : Nat) (da : Option Addr) (dc : Nat) (ea : Option Addr) (ec : Nat) (ga : Option Addr) (gc : Nat) (u : UVal) (hu : HeldU u) (w : World) (hT : Tab w) (hI : UnitIn w ta da ea ga u) (n : Int) (hn : RightN u n) :
    Calls Tryz.prog 27 #[.agg (unitV ta tc da dc ea ec ga gc u)] w fun e w' => e = .returned (.int .i64 n) ∧ Below w.heap.size w w' :=
  (unitRight_any ta tc da dc ea ec ga gc u hu w hT hI).mono fun e w' ⟨⟨m, h1, h2⟩, h3⟩ => ⟨by rw [h1, rightN_one h2 hn], h3⟩

end Go.Proofs.YtmndccbeddaphaaGreatDoor
namespace Go.Proofs.YtmndccbeddaphaaGreatDoor
open Go.ChangeShapes Go.WideShapes Go.ChangeAt Go.RowKit Go.Sort
set_option linter.unusedVariables false
set_option linter.unusedSimpArgs false
set_option maxRecDepth 100000

/-- a refusal in memory, or none -/
def RfO (w : World) (rp : Option Nat) : Option (Int × Int) → Prop
  | none => rp = none
  | some f => ∃ q, rp = some q ∧ w.heap[q]? = some (.cells #[.int .i64 f.1, .int .i64 f.2] 68 (0, 0))
abbrev rpV (rp : Option Nat) : Value := .pointer (rp.map fun q => ⟨q, 0, none⟩)
/-- the first refusal stays -/
def firstR (bad : Option (Int × Int)) (f : Int × Int) : Option (Int × Int) := match bad with | none => some f | some g => some g

/-- a reader at block r, over the bytes zs, at place p -/
structure RS (w : World) (r : Nat) (a : Option Addr) (c : Nat) (zs : List Int) (p : Nat) (bad : Option (Int × Int)) (rp : Option Nat) (mv : Value) (last : List UInt8) : Prop where
  blk : w.heap[r]? = some (.cells #[.slice a zs.length c, .int .i64 (p : Int), rpV rp, mv, .string (str last)] 71 (0, 0))
  lies : O.Lies w a zs
  old : ∀ x, a = some x → x.block < r
  cap : zs.length ≤ c
  few : zs.length ≤ 2000000
  at_ : p ≤ zs.length ∨ (bad.isSome = true ∧ p ≤ zs.length + 1)
  rf : RfO w rp bad

theorem five_read {T : TypeId} {w : World} {g : Nat} {v0 v1 v2 v3 v4 : Value} (h : w.heap[g]? = some (.cells #[v0, v1, v2, v3, v4] T (0, 0))) : w.cell? ⟨g, 0, none⟩ = some v0 ∧ w.cell? ⟨g, 1, none⟩ = some v1 ∧ w.cell? ⟨g, 2, none⟩ = some v2 ∧ w.cell? ⟨g, 3, none⟩ = some v3 ∧ w.cell? ⟨g, 4, none⟩ = some v4 :=
  ⟨(cell_blockT h 0).trans rfl, (cell_blockT h 1).trans rfl, (cell_blockT h 2).trans rfl, (cell_blockT h 3).trans rfl, (cell_blockT h 4).trans rfl⟩

theorem keepB {w : World} {g : Nat} {x : Obj} (h : w.heap[g]? = some x) (o : Obj) : (w.alloc o).heap[g]? = some x := ((below_alloc w o).block g (Array.getElem?_eq_some_iff.1 h).1).trans h
section
variable {w w' : World} {r : Nat} {a : Option Addr} {c : Nat} {zs : List Int} {p : Nat} {bad : Option (Int × Int)} {rp : Option Nat} {mv : Value} {last : List UInt8}

theorem lies_grown {k : Option Nat} (h : O.Lies w a zs) (ho : ∀ x, a = some x → x.block < w.heap.size ∧ k ≠ some x.block) (hg : w.grownBy w' k) : O.Lies w' a zs := by
  refine ⟨h.1, ?_⟩
  rcases h.2 with h0 | ⟨b, off, rfl, hc⟩
  · exact .inl h0
  · refine .inr ⟨b, off, rfl, fun i hi => ?_⟩
    obtain ⟨h1, h2⟩ := ho _ rfl
    rw [World.cell?_of_block (hg.block b h1 (Ne.symm h2))]
    exact hc i hi
theorem RfO.grown {k : Option Nat} (h : RfO w rp bad) (hk : ∀ q, rp = some q → k ≠ some q) (hg : w.grownBy w' k) : RfO w' rp bad := by
  cases bad with
  | none => exact h
  | some f =>
    obtain ⟨q, h1, h2⟩ := h
    exact ⟨q, h1, (hg.block q (blk_lt h2) (Ne.symm (hk q h1))).trans h2⟩
theorem RS.rne (h : RS w r a c zs p bad rp mv last) : ∀ q, rp = some q → some r ≠ some q := fun q hq e => by
  cases e
  cases hb : bad with
  | none => rw [hb] at h; have := h.rf; rw [hq] at this; cases this
  | some f =>
    have h1 := h.rf
    rw [hb] at h1
    obtain ⟨q', h2, h3⟩ := h1
    rw [hq] at h2
    cases h2
    rw [h.blk] at h3
    cases h3
/-- the reader's cells are written -/
theorem RS.put (h : RS w r a c zs p bad rp mv last) {p' : Nat} {bad' : Option (Int × Int)} {rp' : Option Nat} {mv' : Value} {last' : List UInt8} (hg : w.grownBy w' (some r)) (hp : p' ≤ zs.length ∨ (bad'.isSome = true ∧ p' ≤ zs.length + 1))
    (hb : w'.heap[r]? = some (.cells #[.slice a zs.length c, .int .i64 (p' : Int), rpV rp', mv', .string (str last')] 71 (0, 0))) (hr : RfO w' rp' bad') : RS w' r a c zs p' bad' rp' mv' last' :=
  ⟨hb, lies_grown h.lies (fun x hx => ⟨Nat.lt_trans (h.old x hx) (blk_lt h.blk), fun e => by cases e; exact absurd (h.old x hx) (Nat.lt_irrefl _)⟩) hg, h.old, h.cap, h.few, hp, hr⟩
theorem RS.below (h : RS w r a c zs p bad rp mv last) (hb : Below w.heap.size w w') : RS w' r a c zs p bad rp mv last :=
  ⟨(hb.block r (blk_lt h.blk)).trans h.blk, lies_grown h.lies (fun x hx => ⟨Nat.lt_trans (h.old x hx) (blk_lt h.blk), by simp⟩) (grown_of_below hb), h.old, h.cap, h.few, h.at_, h.rf.grown (by simp) (grown_of_below hb)⟩

theorem refused_is (h : RS w r a c zs p bad rp mv last) : Calls Tryz.prog 32 #[.pointer (some ⟨r, 0, none⟩)] w fun e w' => e = .returned (.bool bad.isSome) ∧ w' = w := by
  obtain ⟨_, _, c2, _, _⟩ := five_read h.blk
  have hrf := h.rf
  cases bad with
  | none =>
    have hrp : rp = none := hrf
    subst hrp
    clear h hrf
    simp only [rpV, Option.map_none] at c2
    go_enter Tryz.func32, Tryz.ntmps32
    go_wp2
    all_goals first | omega | skip
    go_ret
    exact ⟨rfl, rfl⟩
  | some f =>
    obtain ⟨q, hq, _⟩ := hrf
    subst hq
    clear h
    simp only [rpV, Option.map_some] at c2
    go_enter Tryz.func32, Tryz.ntmps32
    go_wp2
    all_goals first | omega | skip
    go_ret
    exact ⟨rfl, rfl⟩

theorem refuse_is (h : RS w r a c zs p bad rp mv last) (x y : Int) : Calls Tryz.prog 82 #[.pointer (some ⟨r, 0, none⟩), .int .i64 x, .int .i64 y] w fun e w' => e = .returned (.tuple #[]) ∧ w.grownBy w' (some r) ∧ ∃ rp', RS w' r a c zs p (firstR bad (x, y)) rp' mv last := by
  have h32 := Hid.intro (refused_is h)
  cases hb : bad with
  | some f =>
    rw [hb] at h32 h
    go_enter Tryz.func82, Tryz.ntmps82
    go_wp2_with (go_at_call 32; (with_reducible refine (h32.out).mono ?_); rintro e w1 ⟨rfl, hw1⟩; subst w1)
    all_goals first | omega | skip
    go_end0
    exact ⟨rfl, World.grownBy.refl _ _, rp, h⟩
  | none =>
    rw [hb] at h32 h
    have hlt := blk_lt h.blk
    obtain ⟨_, _, c2, _, _⟩ := five_read h.blk
    have f2 := frozen_of_row _ r 2 _ 71 h.blk
    have hA := keepB h.blk (.cells #[.int .i64 x, .int .i64 y] 68)
    obtain ⟨_, _, d2, _, _⟩ := five_read hA
    have g2 := frozen_of_row _ r 2 _ 71 hA
    have nr : ¬ w.heap.size = r := Nat.ne_of_gt hlt
    obtain ⟨s1, s2⟩ := row_set h.blk 2 (.pointer (some ⟨w.heap.size, 0, none⟩))
    have hfin : Hid (w.grownBy ((w.setCell ⟨r, 2, none⟩ (.pointer (some ⟨w.heap.size, 0, none⟩))).alloc (.cells #[.int .i64 x, .int .i64 y] 68)) (some r) ∧ ∃ rp', RS ((w.setCell ⟨r, 2, none⟩ (.pointer (some ⟨w.heap.size, 0, none⟩))).alloc (.cells #[.int .i64 x, .int .i64 y] 68)) r a c zs p (firstR none (x, y)) rp' mv last) := by
      have hg := grown_trans s2 (World.grownBy_alloc (w.setCell ⟨r, 2, none⟩ (.pointer (some ⟨w.heap.size, 0, none⟩))) (.cells #[.int .i64 x, .int .i64 y] 68) (some r))
      refine ⟨hg, some w.heap.size, h.put hg (.inl (h.at_.resolve_right (fun hh => by cases hh.1))) (keepB s1 _) ⟨w.heap.size, rfl, ?_⟩⟩
      have := heap_alloc_new (w.setCell ⟨r, 2, none⟩ (.pointer (some ⟨w.heap.size, 0, none⟩))) (.cells #[.int .i64 x, .int .i64 y] 68)
      rw [show (w.setCell ⟨r, 2, none⟩ (.pointer (some ⟨w.heap.size, 0, none⟩))).heap.size = w.heap.size by simp] at this
      exact this
    clear h s1 s2
    go_enter Tryz.func82, Tryz.ntmps82
    go_wp2_with (go_at_call 32; (with_reducible refine (h32.out).mono ?_); rintro e w1 ⟨rfl, hw1⟩; subst w1)
    all_goals first | omega | skip
    go_end0
    exact ⟨rfl, hfin.out⟩

/-- what number answers, where it stands then, and what is refused -/
def rdV (zs : List Int) (p wd : Nat) : Int := if p + wd ≤ zs.length then O.leN ((zs.drop p).take wd) else 0
def rdP (zs : List Int) (p wd : Nat) : Nat := if p + wd ≤ zs.length then p + wd else p
def rdB (zs : List Int) (p wd : Nat) (bad : Option (Int × Int)) : Option (Int × Int) := if p + wd ≤ zs.length then bad else firstR bad (zs.length, 10)

set_option maxHeartbeats 4000000 in
theorem number_is (h : RS w r a c zs p bad rp mv last) (wd : Nat) (hw : wd = 1 ∨ wd = 2 ∨ wd = 4) : Calls Tryz.prog 113 #[.pointer (some ⟨r, 0, none⟩), .int .i64 (wd : Int)] w fun e w' => e = .returned (.int .u32 (rdV zs p wd)) ∧ w.grownBy w' (some r) ∧ ∃ rp', RS w' r a c zs (rdP zs p wd) (rdB zs p wd bad) rp' mv last := by
  have hat : p ≤ zs.length + 1 := by rcases h.at_ with h1 | ⟨_, h1⟩ <;> omega
  have hfw := h.few
  have hiw : O.isW (wd : Int) = true := by rcases hw with rfl | rfl | rfl <;> rfl
  have hget := Hid.intro (fun n => O.get_any a c zs (p : Int) (wd : Int) (w.drewN n) (lies_grown h.lies (fun x hx => ⟨Nat.lt_trans (h.old x hx) (blk_lt h.blk), by simp⟩) (grown_of_below (below_drewN (Below.refl w.heap.size w) n))) (by unfold maxLen; omega) (by omega))
  obtain ⟨n0, hn0⟩ : ∃ n0, n0 = zs.length := ⟨_, rfl⟩
  have hblk := h.blk
  rw [← hn0] at hblk hget hat hfw
  obtain ⟨c0, c1, _, _, _⟩ := five_read hblk
  by_cases hq : p + wd ≤ n0
  · have e1 : O.getE zs (p : Int) (wd : Int) = 0 := by unfold O.getE; rw [hiw, if_neg (by rw [← hn0]; simp; omega), if_neg (by rw [← hn0]; omega)]
    have e2 : O.getN zs (p : Int) (wd : Int) = rdV zs p wd := by unfold O.getN rdV; rw [if_pos e1, if_pos (by omega)]; rfl
    rw [e1, e2] at hget
    have f1 := fun (n : Nat) => frozen_of_row (w.drewN n) r 1 _ 71 hblk
    have hfin : Hid (∀ n, w.grownBy ((w.drewN n).setCell ⟨r, 1, none⟩ (.int .i64 ((p : Int) + wd))) (some r) ∧ ∃ rp', RS ((w.drewN n).setCell ⟨r, 1, none⟩ (.int .i64 ((p : Int) + wd))) r a c zs (rdP zs p wd) (rdB zs p wd bad) rp' mv last) := fun n => by
      obtain ⟨s1, s2⟩ := row_set (show (w.drewN n).heap[r]? = _ from h.blk) 1 (.int .i64 ((p : Int) + wd))
      have hg : w.grownBy ((w.drewN n).setCell ⟨r, 1, none⟩ (.int .i64 ((p : Int) + wd))) (some r) := ⟨s2.os, s2.tape, s2.output, s2.size, s2.block⟩
      refine ⟨hg, rp, ?_⟩
      unfold rdP rdB
      rw [if_pos (by omega), if_pos (by omega)]
      exact h.put hg (.inl (by omega)) s1 (h.rf.grown h.rne hg)
    generalize rdV zs p wd = V at *
    clear h hblk e1 e2 hiw hn0
    go_enter Tryz.func113, Tryz.ntmps113
    go_wp2
    all_goals first | omega | skip
    go_quiet ((go_at_call 137; with_reducible exact Calls.quiet_of_same (hget.out _)))
    go_wp2
    all_goals first | omega | skip
    go_ret
    exact ⟨rfl, hfin.out _⟩
  · obtain ⟨te, hte⟩ : ∃ te, te = O.getE zs (p : Int) (wd : Int) := ⟨_, rfl⟩
    have hne : te ≠ 0 := by
      rw [hte]
      unfold O.getE
      rw [hiw]
      split
      · decide
      · rw [if_pos (by rw [← hn0]; omega)]; decide
    have hfst : firstR bad ((n0 : Int), te) = firstR bad ((n0 : Int), 10) := by
      rcases h.at_ with h1 | ⟨h1, _⟩
      · have : te = 10 := by rw [hte]; unfold O.getE; rw [hiw, if_neg (by simp; omega), if_pos (by rw [← hn0]; omega)]
        rw [this]
      · cases bad with
        | none => cases h1
        | some f => rfl
    have e2 : O.getN zs (p : Int) (wd : Int) = 0 := by unfold O.getN; rw [if_neg (by rw [← hte]; exact hne)]
    have e3 : rdV zs p wd = 0 := by unfold rdV; rw [if_neg (by omega)]
    rw [← hte, e2] at hget
    rw [e3]
    have hq2 : (te == 0) = false := by simpa using hne
    have hrf : Hid (∀ n, Calls Tryz.prog 82 #[.pointer (some ⟨r, 0, none⟩), .int .i64 (n0 : Int), .int .i64 te] (w.drewN n) fun e w' => e = .returned (.tuple #[]) ∧ w.grownBy w' (some r) ∧ ∃ rp', RS w' r a c zs (rdP zs p wd) (rdB zs p wd bad) rp' mv last) := fun n => by
      refine (refuse_is (h.below (below_drewN (Below.refl w.heap.size w) n)) (n0 : Int) te).mono ?_
      rintro e w' ⟨rfl, hg, rp', hR⟩
      refine ⟨rfl, ⟨hg.os, hg.tape, hg.output, hg.size, hg.block⟩, rp', ?_⟩
      unfold rdP rdB
      rw [if_neg (by omega), if_neg (by omega), ← hn0, ← hfst]
      exact hR
    clear hte hfst hne
    clear h hblk e2 e3 hiw hn0
    go_enter Tryz.func113, Tryz.ntmps113
    go_wp2
    all_goals first | omega | skip
    go_quiet ((go_at_call 137; with_reducible exact Calls.quiet_of_same (hget.out _)))
    go_wp2_with (go_at_call 82; (with_reducible refine (hrf.out _).mono ?_); rintro e w2 ⟨rfl, hg2, hR2⟩; replace hg2 := Hid.intro hg2; replace hR2 := Hid.intro hR2)
    all_goals first | omega | skip
    go_ret
    exact ⟨rfl, hg2.out, hR2.out⟩
end
end Go.Proofs.YtmndccbeddaphaaGreatDoor
