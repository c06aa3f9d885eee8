/- Contracts of octet.Get and of the document's Get, and of the runs that every statement of this stage asks: what they answer of bytes that lie in memory. -/
import Derived.Test.YtmndccbeddaphaaGreatDoorUGl
import Derived.Laws.BitsAllLaws
import Derived.Test.YtmndccbeddaphaaGreatDoorRows
import Derived.WalkKit
import Derived.ProofKit
import Derived.OpenShut
import Derived.ShutString
import Derived.ChangeOld
import Derived.Below
/- unit's Right and Spans. -/
namespace Go.Proofs.YtmndccbeddaphaaGreatDoor
open Go.ChangeShapes Go.WideShapes Go.ChangeAt Go.RowKit Go.Sort
set_option linter.unusedVariables false
set_option maxRecDepth 100000
structure RightU (u : UVal) : Prop where
  text : (u.text.all fun x => okI x 0) = true
  data : (u.data.all fun x => okI x 1) = true
  equs : u.equs.all okE = true
  once : ¬ Twice (sortS u.names)
  globs : GlobOk u.globs (sortS u.names)
def RightN (u : UVal) (n : Int) : Prop := (8192 < u.text.length + u.data.length ∨ 8192 < u.equs.length) ∧ n = 4 ∨ ¬ (8192 < u.text.length + u.data.length ∨ 8192 < u.equs.length) ∧ (RightU u ∧ n = 0 ∨ ¬ RightU u ∧ n = 31)
set_option maxHeartbeats 8000000 in
theorem unitRight_any (ta : Option Addr) (tc : Nat) (da : Option Addr) (dc : Nat) (ea : Option Addr) (ec : Nat) (ga : Option Addr) (gc : Nat) (u : UVal) (hu : HeldU u) (w : World) (hT : Tab w) (hI : UnitIn w ta da ea ga u) :
    Calls Tryz.prog 27 #[.agg (unitV ta tc da dc ea ec ga gc u)] w fun e w' => (∃ n : Int, e = .returned (.int .i64 n) ∧ RightN u n) ∧ Below w.heap.size w w' := by
  have hB0 : Below w.heap.size w (w.alloc (.cells (unitV ta tc da dc ea ec ga gc u) 30)) := below_alloc w _
  have hbx := heap_alloc_new w (.cells (unitV ta tc da dc ea ec ga gc u) 30)
  have hws : (w.alloc (.cells (unitV ta tc da dc ea ec ga gc u) 30)).heap.size = w.heap.size + 1 := by simp
  have hcells : Hid (∀ w1, Below (w.alloc (.cells (unitV ta tc da dc ea ec ga gc u) 30)).heap.size (w.alloc (.cells (unitV ta tc da dc ea ec ga gc u) 30)) w1 → w1.cell? ⟨w.heap.size, 0, none⟩ = some (.slice ta u.text.length tc) ∧ w1.cell? ⟨w.heap.size, 1, none⟩ = some (.slice da u.data.length dc) ∧ w1.cell? ⟨w.heap.size, 2, none⟩ = some (.slice ea u.equs.length ec) ∧ w1.cell? ⟨w.heap.size, 3, none⟩ = some (.slice ga u.globs.length gc)) := fun w1 h1 => four_read ((h1.block w.heap.size (by omega)).trans hbx)
  obtain ⟨c0, c1, c2, c3⟩ := four_read hbx
  have hI0 := Hid.intro (hI.below hB0)
  have hT0 := Hid.intro (hT.alloc (.cells (unitV ta tc da dc ea ec ga gc u) 30))
  have hh1 := hu.text.1
  have hh2 := hu.data.1
  have hh3 := hu.equs.1
  have q1 : wrap64 ((u.text.length : Int) + (u.data.length : Int)) = (u.text.length : Int) + (u.data.length : Int) := by unfold wrap64; omega
  have hB0H := Hid.intro hB0
  clear hbx hB0 hT
  by_cases hm1 : 8192 < u.text.length + u.data.length
  · have p1 : decide ((8192 : Int) < (u.text.length : Int) + (u.data.length : Int)) = true := by simp; omega
    go_enter Tryz.func27, Tryz.ntmps27
    go_wp2
    all_goals first | omega | skip
    go_ret
    exact ⟨⟨4, rfl, .inl ⟨.inl hm1, rfl⟩⟩, hB0H.out⟩
  have p1 : decide ((8192 : Int) < (u.text.length : Int) + (u.data.length : Int)) = false := by simp; omega
  by_cases hm2 : 8192 < u.equs.length
  · have p2 : decide ((8192 : Int) < (u.equs.length : Int)) = true := by simp; omega
    go_enter Tryz.func27, Tryz.ntmps27
    go_wp2
    all_goals first | omega | skip
    go_ret
    exact ⟨⟨4, rfl, .inl ⟨.inr hm2, rfl⟩⟩, hB0H.out⟩
  have p2 : decide ((8192 : Int) < (u.equs.length : Int)) = false := by simp; omega
  have hno : Hid (¬ (8192 < u.text.length + u.data.length ∨ 8192 < u.equs.length)) := by rintro (h | h); exact hm1 h; exact hm2 h
  have r1 := Hid.intro (rightItems_any ta tc u.text 0 (.inl rfl) hu.text.1 hu.text.2 _ hT0.out hI0.out.text)
  have r2 := Hid.intro (fun w1 (hb : Below (w.alloc (.cells (unitV ta tc da dc ea ec ga gc u) 30)).heap.size (w.alloc (.cells (unitV ta tc da dc ea ec ga gc u) 30)) w1) => rightItems_any da dc u.data 1 (.inr rfl) hu.data.1 hu.data.2 w1 (hT0.out.below hb hT0.out.size) (hI0.out.data.below hb))
  have r3 := Hid.intro (fun w1 (hb : Below (w.alloc (.cells (unitV ta tc da dc ea ec ga gc u) 30)).heap.size (w.alloc (.cells (unitV ta tc da dc ea ec ga gc u) 30)) w1) => rightEqus_any ea ec u.equs hu.equs.1 hu.equs.2 w1 (hI0.out.equs.below hb))
  have r4 := Hid.intro (fun w1 (hb : Below (w.alloc (.cells (unitV ta tc da dc ea ec ga gc u) 30)).heap.size (w.alloc (.cells (unitV ta tc da dc ea ec ga gc u) 30)) w1) => sortedNames_any ta tc da dc ea ec ga gc u hu w1 (hI0.out.below hb))
  have hnl : (sortS u.names).length ≤ 9000000 := by
    rw [sortS_len]
    have h1 := labN_len u.text
    have h2 := labN_len u.data
    unfold UVal.names
    simp
    omega
  have r5 := Hid.intro (fun a' c' w1 lo (ho : w1.ownsRow lo 9 1 (.slice a' (sortS u.names).length c') (sortS u.names).length ((sortS u.names).map encStr)) => hasTwice_any a' c' (sortS u.names) hnl w1 (own_stIn ho))
  have hg9 : u.globs.length ≤ 9000000 := by have := hu.globs; omega
  have r6 := Hid.intro (fun a' c' w2 (hb : Below (w.alloc (.cells (unitV ta tc da dc ea ec ga gc u) 30)).heap.size (w.alloc (.cells (unitV ta tc da dc ea ec ga gc u) 30)) w2) (hS : StIn w2 a' (sortS u.names)) => rightGlobals_any ga gc u.globs a' c' (sortS u.names) hg9 hnl (sortS_rise _) w2 (hI0.out.globs.below hb) hS)
  clear hm1 hm2 hI hu hnl hg9
  cases hTb : u.text.all fun x => okI x 0 with
  | false =>
    rw [hTb] at r1
    have hbad : Hid (¬ RightU u) := fun h => by have := h.text; rw [hTb] at this; cases this
    clear hTb
    go_enter Tryz.func27, Tryz.ntmps27
    go_wp2_with (first | (go_at_call 59; (with_reducible refine (r1.out).mono ?_); rintro e w1 ⟨rfl, hb1⟩; have hB1 := Hid.intro hb1; obtain ⟨x10, x11, x12, x13⟩ := hcells.out w1 hB1.out; clear hb1))
    all_goals first | omega | skip
    go_ret
    exact ⟨⟨31, rfl, .inr ⟨hno.out, .inr ⟨hbad.out, rfl⟩⟩⟩, hB0H.out.trans (hB1.out.mono hB0H.out.size)⟩
  | true =>
  rw [hTb] at r1
  cases hDb : u.data.all fun x => okI x 1 with
  | false =>
    rw [hDb] at r2
    have hbad : Hid (¬ RightU u) := fun h => by have := h.data; rw [hDb] at this; cases this
    clear hTb hDb
    go_enter Tryz.func27, Tryz.ntmps27
    go_wp2_with (first | (go_at_call 59; (with_reducible refine (r1.out).mono ?_); rintro e w1 ⟨rfl, hb1⟩; have hB1 := Hid.intro hb1; obtain ⟨x10, x11, x12, x13⟩ := hcells.out w1 hB1.out; clear hb1) | (go_at_call 59; (with_reducible refine (r2.out w1 hB1.out).mono ?_); rintro e w2 ⟨rfl, hb2⟩; have hB2 := Hid.intro (hB1.out.trans (hb2.mono hB1.out.size)); obtain ⟨x20, x21, x22, x23⟩ := hcells.out w2 hB2.out; clear hb2))
    all_goals first | omega | skip
    go_ret
    exact ⟨⟨31, rfl, .inr ⟨hno.out, .inr ⟨hbad.out, rfl⟩⟩⟩, hB0H.out.trans (hB2.out.mono hB0H.out.size)⟩
  | true =>
  rw [hDb] at r2
  cases hEb : u.equs.all okE with
  | false =>
    rw [hEb] at r3
    have hbad : Hid (¬ RightU u) := fun h => by have := h.equs; rw [hEb] at this; cases this
    clear hTb hDb hEb
    go_enter Tryz.func27, Tryz.ntmps27
    go_wp2_with (first | (go_at_call 59; (with_reducible refine (r1.out).mono ?_); rintro e w1 ⟨rfl, hb1⟩; have hB1 := Hid.intro hb1; obtain ⟨x10, x11, x12, x13⟩ := hcells.out w1 hB1.out; clear hb1) | (go_at_call 59; (with_reducible refine (r2.out w1 hB1.out).mono ?_); rintro e w2 ⟨rfl, hb2⟩; have hB2 := Hid.intro (hB1.out.trans (hb2.mono hB1.out.size)); obtain ⟨x20, x21, x22, x23⟩ := hcells.out w2 hB2.out; clear hb2) | (go_at_call 60; (with_reducible refine (r3.out w2 hB2.out).mono ?_); rintro e w3 ⟨rfl, hb3⟩; have hB3 := Hid.intro (hB2.out.trans (hb3.mono hB2.out.size)); obtain ⟨x30, x31, x32, x33⟩ := hcells.out w3 hB3.out; clear hb3))
    all_goals first | omega | skip
    go_ret
    exact ⟨⟨31, rfl, .inr ⟨hno.out, .inr ⟨hbad.out, rfl⟩⟩⟩, hB0H.out.trans (hB3.out.mono hB0H.out.size)⟩
  | true =>
  rw [hEb] at r3
  by_cases hTw : Twice (sortS u.names)
  · have hbad : Hid (¬ RightU u) := fun h => h.once hTw
    replace r5 : Hid (∀ a' c' w1 lo, w1.ownsRow lo 9 1 (.slice a' (sortS u.names).length c') (sortS u.names).length ((sortS u.names).map encStr) → Calls Tryz.prog 62 #[.slice a' (sortS u.names).length c'] w1 fun e w' => e = .returned (.bool true) ∧ Below w1.heap.size w1 w') := fun a' c' w1 lo ho => (r5.out a' c' w1 lo ho).mono fun e w' ⟨⟨bv, h1, h2⟩, h3⟩ => ⟨by rw [h1, show bv = true from h2.2 hTw], h3⟩
    clear hTb hDb hEb hTw
    go_enter Tryz.func27, Tryz.ntmps27
    go_wp2_with (first | (go_at_call 59; (with_reducible refine (r1.out).mono ?_); rintro e w1 ⟨rfl, hb1⟩; have hB1 := Hid.intro hb1; obtain ⟨x10, x11, x12, x13⟩ := hcells.out w1 hB1.out; clear hb1) | (go_at_call 59; (with_reducible refine (r2.out w1 hB1.out).mono ?_); rintro e w2 ⟨rfl, hb2⟩; have hB2 := Hid.intro (hB1.out.trans (hb2.mono hB1.out.size)); obtain ⟨x20, x21, x22, x23⟩ := hcells.out w2 hB2.out; clear hb2) | (go_at_call 60; (with_reducible refine (r3.out w2 hB2.out).mono ?_); rintro e w3 ⟨rfl, hb3⟩; have hB3 := Hid.intro (hB2.out.trans (hb3.mono hB2.out.size)); obtain ⟨x30, x31, x32, x33⟩ := hcells.out w3 hB3.out; clear hb3) | (go_at_call 61; (with_reducible refine (r4.out w3 hB3.out).mono ?_); rintro e w4 ⟨a4, c4, rfl, hN4⟩; have hB4 := Hid.intro (hB3.out.trans (hN4.bel.mono hB3.out.size)); obtain ⟨x40, x41, x42, x43⟩ := hcells.out w4 hB4.out; replace hN4 := Hid.intro hN4) | (go_at_call 62; (with_reducible refine (r5.out a4 c4 w4 _ hN4.out.own).mono ?_); rintro e w5 ⟨rfl, hb5⟩; have hB5 := Hid.intro (hB4.out.trans (hb5.mono hB4.out.size)); obtain ⟨x50, x51, x52, x53⟩ := hcells.out w5 hB5.out; have hS5 := Hid.intro ((own_stIn hN4.out.own).below hb5); clear hb5))
    all_goals first | omega | skip
    go_ret
    exact ⟨⟨31, rfl, .inr ⟨hno.out, .inr ⟨hbad.out, rfl⟩⟩⟩, hB0H.out.trans (hB5.out.mono hB0H.out.size)⟩
  replace r5 : Hid (∀ a' c' w1 lo, w1.ownsRow lo 9 1 (.slice a' (sortS u.names).length c') (sortS u.names).length ((sortS u.names).map encStr) → Calls Tryz.prog 62 #[.slice a' (sortS u.names).length c'] w1 fun e w' => e = .returned (.bool false) ∧ Below w1.heap.size w1 w') := fun a' c' w1 lo ho => (r5.out a' c' w1 lo ho).mono fun e w' ⟨⟨bv, h1, h2⟩, h3⟩ => ⟨by rw [h1, show bv = false from Bool.eq_false_iff.2 fun h => hTw (h2.1 h)], h3⟩
  by_cases hGl : GlobOk u.globs (sortS u.names)
  · have hgood : Hid (RightU u) := ⟨hTb, hDb, hEb, hTw, hGl⟩
    replace r6 : Hid (∀ a' c' w2, Below (w.alloc (.cells (unitV ta tc da dc ea ec ga gc u) 30)).heap.size (w.alloc (.cells (unitV ta tc da dc ea ec ga gc u) 30)) w2 → StIn w2 a' (sortS u.names) → Calls Tryz.prog 63 #[.slice ga u.globs.length gc, .slice a' (sortS u.names).length c'] w2 fun e w' => e = .returned (.bool true) ∧ Below w2.heap.size w2 w') := fun a' c' w2 hb hS => (r6.out a' c' w2 hb hS).mono fun e w' ⟨⟨bv, h1, h2⟩, h3⟩ => ⟨by rw [h1, show bv = true from h2.2 hGl], h3⟩
    clear hTb hDb hEb hTw hGl
    go_enter Tryz.func27, Tryz.ntmps27
    go_wp2_with (first | (go_at_call 59; (with_reducible refine (r1.out).mono ?_); rintro e w1 ⟨rfl, hb1⟩; have hB1 := Hid.intro hb1; obtain ⟨x10, x11, x12, x13⟩ := hcells.out w1 hB1.out; clear hb1) | (go_at_call 59; (with_reducible refine (r2.out w1 hB1.out).mono ?_); rintro e w2 ⟨rfl, hb2⟩; have hB2 := Hid.intro (hB1.out.trans (hb2.mono hB1.out.size)); obtain ⟨x20, x21, x22, x23⟩ := hcells.out w2 hB2.out; clear hb2) | (go_at_call 60; (with_reducible refine (r3.out w2 hB2.out).mono ?_); rintro e w3 ⟨rfl, hb3⟩; have hB3 := Hid.intro (hB2.out.trans (hb3.mono hB2.out.size)); obtain ⟨x30, x31, x32, x33⟩ := hcells.out w3 hB3.out; clear hb3) | (go_at_call 61; (with_reducible refine (r4.out w3 hB3.out).mono ?_); rintro e w4 ⟨a4, c4, rfl, hN4⟩; have hB4 := Hid.intro (hB3.out.trans (hN4.bel.mono hB3.out.size)); obtain ⟨x40, x41, x42, x43⟩ := hcells.out w4 hB4.out; replace hN4 := Hid.intro hN4) | (go_at_call 62; (with_reducible refine (r5.out a4 c4 w4 _ hN4.out.own).mono ?_); rintro e w5 ⟨rfl, hb5⟩; have hB5 := Hid.intro (hB4.out.trans (hb5.mono hB4.out.size)); obtain ⟨x50, x51, x52, x53⟩ := hcells.out w5 hB5.out; have hS5 := Hid.intro ((own_stIn hN4.out.own).below hb5); clear hb5) | (go_at_call 63; (with_reducible refine (r6.out a4 c4 w5 hB5.out hS5.out).mono ?_); rintro e w6 ⟨rfl, hb6⟩; have hB6 := Hid.intro (hB5.out.trans (hb6.mono hB5.out.size)); clear hb6))
    all_goals first | omega | skip
    go_ret
    exact ⟨⟨0, rfl, .inr ⟨hno.out, .inl ⟨hgood.out, rfl⟩⟩⟩, hB0H.out.trans (hB6.out.mono hB0H.out.size)⟩
  · have hbad : Hid (¬ RightU u) := fun h => hGl h.globs
    replace r6 : Hid (∀ a' c' w2, Below (w.alloc (.cells (unitV ta tc da dc ea ec ga gc u) 30)).heap.size (w.alloc (.cells (unitV ta tc da dc ea ec ga gc u) 30)) w2 → StIn w2 a' (sortS u.names) → Calls Tryz.prog 63 #[.slice ga u.globs.length gc, .slice a' (sortS u.names).length c'] w2 fun e w' => e = .returned (.bool false) ∧ Below w2.heap.size w2 w') := fun a' c' w2 hb hS => (r6.out a' c' w2 hb hS).mono fun e w' ⟨⟨bv, h1, h2⟩, h3⟩ => ⟨by rw [h1, show bv = false from Bool.eq_false_iff.2 fun h => hGl (h2.1 h)], h3⟩
    clear hTb hDb hEb hTw hGl
    go_enter Tryz.func27, Tryz.ntmps27
    go_wp2_with (first | (go_at_call 59; (with_reducible refine (r1.out).mono ?_); rintro e w1 ⟨rfl, hb1⟩; have hB1 := Hid.intro hb1; obtain ⟨x10, x11, x12, x13⟩ := hcells.out w1 hB1.out; clear hb1) | (go_at_call 59; (with_reducible refine (r2.out w1 hB1.out).mono ?_); rintro e w2 ⟨rfl, hb2⟩; have hB2 := Hid.intro (hB1.out.trans (hb2.mono hB1.out.size)); obtain ⟨x20, x21, x22, x23⟩ := hcells.out w2 hB2.out; clear hb2) | (go_at_call 60; (with_reducible refine (r3.out w2 hB2.out).mono ?_); rintro e w3 ⟨rfl, hb3⟩; have hB3 := Hid.intro (hB2.out.trans (hb3.mono hB2.out.size)); obtain ⟨x30, x31, x32, x33⟩ := hcells.out w3 hB3.out; clear hb3) | (go_at_call 61; (with_reducible refine (r4.out w3 hB3.out).mono ?_); rintro e w4 ⟨a4, c4, rfl, hN4⟩; have hB4 := Hid.intro (hB3.out.trans (hN4.bel.mono hB3.out.size)); obtain ⟨x40, x41, x42, x43⟩ := hcells.out w4 hB4.out; replace hN4 := Hid.intro hN4) | (go_at_call 62; (with_reducible refine (r5.out a4 c4 w4 _ hN4.out.own).mono ?_); rintro e w5 ⟨rfl, hb5⟩; have hB5 := Hid.intro (hB4.out.trans (hb5.mono hB4.out.size)); obtain ⟨x50, x51, x52, x53⟩ := hcells.out w5 hB5.out; have hS5 := Hid.intro ((own_stIn hN4.out.own).below hb5); clear hb5) | (go_at_call 63; (with_reducible refine (r6.out a4 c4 w5 hB5.out hS5.out).mono ?_); rintro e w6 ⟨rfl, hb6⟩; have hB6 := Hid.intro (hB5.out.trans (hb6.mono hB5.out.size)); clear hb6))
    all_goals first | omega | skip
    go_ret
    exact ⟨⟨31, rfl, .inr ⟨hno.out, .inr ⟨hbad.out, rfl⟩⟩⟩, hB0H.out.trans (hB6.out.mono hB0H.out.size)⟩
theorem rightN_one {u : UVal} {n m : Int} (h : RightN u n) (h' : RightN u m) : n = m := by
  unfold RightN at h h'
  by_cases hc : 8192 < u.text.length + u.data.length ∨ 8192 < u.equs.length
  · rcases h with ⟨_, rfl⟩ | ⟨h1, _⟩
    · rcases h' with ⟨_, rfl⟩ | ⟨h1, _⟩
      · rfl
      · exact absurd hc h1
    · exact absurd hc h1
  · rcases h with ⟨h1, _⟩ | ⟨_, h⟩
    · exact absurd h1 hc
    · rcases h' with ⟨h1, _⟩ | ⟨_, h'⟩
      · exact absurd h1 hc
      · by_cases hr : RightU u
        · rcases h with ⟨_, rfl⟩ | ⟨h1, _⟩
          · rcases h' with ⟨_, rfl⟩ | ⟨h1, _⟩
            · rfl
            · exact absurd hr h1
          · exact absurd hr h1
        · rcases h with ⟨h1, _⟩ | ⟨_, rfl⟩
          · exact absurd h1 hr
          · rcases h' with ⟨h1, _⟩ | ⟨_, rfl⟩
            · exact absurd h1 hr
            · rfl
theorem unitRight_is (ta : Option Addr) (tc : Nat) (da : Option Addr) (dc : Nat) (ea : Option Addr) (ec : Nat) (ga : Option Addr) (gc : Nat) (u : UVal) (hu : HeldU u) (w : World) (hT : Tab w) (hI : UnitIn w ta da ea ga u) (n : Int) (hn : RightN u n) :
    Calls Tryz.prog 27 #[.agg (unitV ta tc da dc ea ec ga gc u)] w fun e w' => e = .returned (.int .i64 n) ∧ Below w.heap.size w w' :=
  (unitRight_any ta tc da dc ea ec ga gc u hu w hT hI).mono fun e w' ⟨⟨m, h1, h2⟩, h3⟩ => ⟨by rw [h1, rightN_one h2 hn], h3⟩
end Go.Proofs.YtmndccbeddaphaaGreatDoor
/- Plain arithmetic on bytes: the number that bytes are, the lowest first, and how a shift and an or build it. -/
namespace Go.Proofs.YtmndccbeddaphaaGreatDoor.O
def leN : List Int → Int
  | [] => 0
  | z :: zs => z + 256 * leN zs
def AreBytes (zs : List Int) : Prop := ∀ z ∈ zs, 0 ≤ z ∧ z ≤ 255
theorem leN_bd : (zs : List Int) → AreBytes zs → 0 ≤ leN zs ∧ leN zs < 256 ^ zs.length
  | [], _ => by simp [leN]
  | z :: zs, h => by
    have ih := leN_bd zs (fun y hy => h y (by simp [hy]))
    have hz := h z (by simp)
    simp only [leN, List.length_cons]
    have e : (256 : Int) ^ (zs.length + 1) = 256 * 256 ^ zs.length := by rw [Int.pow_succ]; omega
    rw [e]
    omega
theorem leN_snoc : (zs : List Int) → (z : Int) → leN (zs ++ [z]) = leN zs + 256 ^ zs.length * z
  | [], z => by simp [leN]
  | y :: zs, z => by
    have ih := leN_snoc zs z
    have e : (256 : Int) ^ (zs.length + 1) = 256 * 256 ^ zs.length := by rw [Int.pow_succ]; omega
    simp only [leN, List.cons_append, List.length_cons, ih, e]
    rw [Int.mul_add, Int.mul_assoc]
    omega
theorem take_step (zs : List Int) (k j : Nat) (h : k + j < zs.length) : (zs.drop k).take (j + 1) = (zs.drop k).take j ++ [zs[k + j]?.getD 0] := by
  rw [List.take_succ_eq_append_getElem (by simp; omega)]
  simp [List.getElem?_eq_getElem h]
theorem or_step (x z : Int) (j : Nat) (hj : j ≤ 3) (hx0 : 0 ≤ x) (hx : x < 256 ^ j) (hz0 : 0 ≤ z) (hz : z ≤ 255) :
    bits .or .u32 x (z % 4294967296 * 2 ^ (8 * j) % 4294967296) = x + 256 ^ j * z := by
  obtain ⟨a, rfl⟩ : ∃ a : Nat, x = a := ⟨x.toNat, by omega⟩
  obtain ⟨c, rfl⟩ : ∃ c : Nat, z = c := ⟨z.toNat, by omega⟩
  have hp : (2 : Nat) ^ (8 * j) = 256 ^ j := by rw [Nat.pow_mul]
  have hpi : (2 : Int) ^ (8 * j) = 256 ^ j := by rw [Int.pow_mul]; rfl
  have hle : 256 ^ j ≤ 16777216 := by
    have : j = 0 ∨ j = 1 ∨ j = 2 ∨ j = 3 := by omega
    rcases this with rfl | rfl | rfl | rfl <;> decide
  have ha : a < 256 ^ j := by
    have : ((a : Nat) : Int) < ((256 ^ j : Nat) : Int) := by simpa using hx
    omega
  have hcp : c * 256 ^ j ≤ 255 * 16777216 := Nat.mul_le_mul (by omega) hle
  have e1 : ((c : Int) % 4294967296 * 2 ^ (8 * j) % 4294967296) = ((c * 256 ^ j : Nat) : Int) := by
    have hcm : (c : Int) % 4294967296 = c := by omega
    have hcc : (c : Int) * 256 ^ j = ((c * 256 ^ j : Nat) : Int) := by simp
    rw [hpi, hcm, hcc, Int.emod_eq_of_lt (by omega) (by omega)]
  rw [e1, u32_or_nat a (c * 256 ^ j) (by omega) (by omega)]
  have e2 : c * 256 ^ j = c <<< (8 * j) := by rw [Nat.shiftLeft_eq, hp]
  have e3 : a ||| c * 256 ^ j = c * 256 ^ j + a := by
    rw [Nat.or_comm, e2, ← Nat.shiftLeft_add_eq_or_of_lt (by rw [hp]; exact ha)]
  rw [e3]
  have : (256 : Int) ^ j * (c : Int) = ((c * 256 ^ j : Nat) : Int) := by simp [Int.mul_comm]
  rw [this]
  omega
theorem areBytes_take (zs : List Int) (h : AreBytes zs) (n : Nat) : AreBytes (zs.take n) := fun z hz => h z (List.mem_of_mem_take hz)
theorem areBytes_drop (zs : List Int) (h : AreBytes zs) (n : Nat) : AreBytes (zs.drop n) := fun z hz => h z (List.mem_of_mem_drop hz)
theorem areBytes_getD (zs : List Int) (h : AreBytes zs) (n : Nat) : 0 ≤ zs[n]?.getD 0 ∧ zs[n]?.getD 0 ≤ 255 := by
  rcases Nat.lt_or_ge n zs.length with hn | hn
  · rw [List.getElem?_eq_getElem hn]
    exact h _ (List.getElem_mem hn)
  · rw [List.getElem?_eq_none hn]
    decide
theorem leN_step (zs : List Int) (hz : AreBytes zs) (k j : Nat) (hj : j ≤ 3) (h : k + j < zs.length) :
    bits .or .u32 (leN ((zs.drop k).take j)) (zs[k + j]?.getD 0 % 4294967296 * 2 ^ (8 * j) % 4294967296) = leN ((zs.drop k).take (j + 1)) := by
  have hb := leN_bd ((zs.drop k).take j) (areBytes_take _ (areBytes_drop _ hz k) j)
  have hl : ((zs.drop k).take j).length = j := by simp; omega
  rw [hl] at hb
  have hg := areBytes_getD zs hz (k + j)
  rw [take_step zs k j h, leN_snoc, hl]
  exact or_step _ _ j hj hb.1 hb.2 hg.1 hg.2
def partN (zs : List Int) (a m : Nat) : Int := leN ((zs.drop a).take m)
theorem partN_down (zs : List Int) (hz : AreBytes zs) (k m : Nat) (hm : m ≤ 3) (h : k < zs.length) (hl : k + m < zs.length) :
    (partN zs (k + 1) m * 256 % 4294967296 + zs[k]?.getD 0 % 4294967296) % 4294967296 = partN zs k (m + 1) := by
  have hb := leN_bd ((zs.drop (k + 1)).take m) (areBytes_take _ (areBytes_drop _ hz (k + 1)) m)
  have hlen : ((zs.drop (k + 1)).take m).length = m := by simp; omega
  rw [hlen] at hb
  have hp : (256 : Int) ^ m ≤ 16777216 := by
    have : m = 0 ∨ m = 1 ∨ m = 2 ∨ m = 3 := by omega
    rcases this with rfl | rfl | rfl | rfl <;> decide
  have hg := areBytes_getD zs hz k
  have hd : zs.drop k = zs[k]?.getD 0 :: zs.drop (k + 1) := by
    rw [List.drop_eq_getElem_cons h, List.getElem?_eq_getElem h]
    rfl
  have e : partN zs k (m + 1) = zs[k]?.getD 0 + 256 * partN zs (k + 1) m := by
    simp only [partN]
    rw [hd, List.take_succ_cons, leN]
  have hb' : 0 ≤ partN zs (k + 1) m ∧ partN zs (k + 1) m < 16777216 := ⟨hb.1, Int.lt_of_lt_of_le hb.2 hp⟩
  rw [e]
  omega
end Go.Proofs.YtmndccbeddaphaaGreatDoor.O
/- Contracts of octet's small functions that only compute: isWidth, Signed, Fits, and the document's Signed and Fits. -/
namespace Go.Proofs.YtmndccbeddaphaaGreatDoor.O
open Go.ChangeShapes Go.WideShapes Go.ChangeAt Go.RowKit
set_option linter.unusedVariables false
def isW (n : Int) : Bool := n == 1 || n == 2 || n == 4
theorem isWidth_any (n : Int) (w : World) :
    Calls Tryz.prog 168 #[.int .i64 n] w fun e w' => e = .returned (.bool (isW n)) ∧ w' = w := by
  by_cases h1 : n = 1
  · subst h1
    go_enter Tryz.func168, Tryz.ntmps168
    go_wp2
    go_ret
    exact ⟨rfl, rfl⟩
  · by_cases h2 : n = 2
    · subst h2
      go_enter Tryz.func168, Tryz.ntmps168
      go_wp2
      go_ret
      exact ⟨rfl, rfl⟩
    · by_cases h4 : n = 4
      · subst h4
        go_enter Tryz.func168, Tryz.ntmps168
        go_wp2
        go_ret
        exact ⟨rfl, rfl⟩
      · have e1 : (n == 1) = false := by simpa using h1
        have e2 : (n == 2) = false := by simpa using h2
        have e4 : (n == 4) = false := by simpa using h4
        have hw : isW n = false := by simp [isW, e1, e2, e4]
        rw [hw]
        go_enter Tryz.func168, Tryz.ntmps168
        go_wp2
        go_ret
        exact ⟨rfl, rfl⟩
def sgn (n m : Int) : Int := if m = 1 then wrap32 (IntKind.i8.wrap n) else if m = 2 then wrap32 (IntKind.i16.wrap n) else if m = 4 then wrap32 n else 0
theorem signed_any (n m : Int) (w : World) :
    Calls Tryz.prog 139 #[.int .u32 n, .int .i64 m] w fun e w' => e = .returned (.int .i32 (sgn n m)) ∧ w' = w := by
  by_cases h1 : m = 1
  · subst h1
    go_enter Tryz.func139, Tryz.ntmps139
    go_wp2
    go_ret
    exact ⟨rfl, rfl⟩
  · have e1 : (m == 1) = false := by simpa using h1
    by_cases h2 : m = 2
    · subst h2
      go_enter Tryz.func139, Tryz.ntmps139
      go_wp2
      go_ret
      exact ⟨rfl, rfl⟩
    · have e2 : (m == 2) = false := by simpa using h2
      by_cases h4 : m = 4
      · subst h4
        go_enter Tryz.func139, Tryz.ntmps139
        go_wp2
        go_ret
        exact ⟨rfl, rfl⟩
      · have e4 : (m == 4) = false := by simpa using h4
        have hs : sgn n m = 0 := by simp [sgn, h1, h2, h4]
        rw [hs]
        go_enter Tryz.func139, Tryz.ntmps139
        go_wp2
        go_ret
        exact ⟨rfl, rfl⟩
def fitsB (n m : Int) : Bool := if m = 1 then decide (-128 ≤ n ∧ n ≤ 127) else if m = 2 then decide (-32768 ≤ n ∧ n ≤ 32767) else if m = 4 then true else false
theorem i8wrap (n : Int) : IntKind.i8.wrap n = (n + 128) % 256 - 128 := by
  simp only [IntKind.wrap, IntKind.bits, IntKind.signed]
  simp
  split <;> omega
theorem i16wrap (n : Int) : IntKind.i16.wrap n = (n + 32768) % 65536 - 32768 := by
  simp only [IntKind.wrap, IntKind.bits, IntKind.signed]
  simp
  split <;> omega
end Go.Proofs.YtmndccbeddaphaaGreatDoor.O
namespace Go.Proofs.YtmndccbeddaphaaGreatDoor.O
open Go.ChangeShapes Go.WideShapes Go.ChangeAt Go.RowKit
set_option linter.unusedVariables false
def Lies (w : World) (a : Option Addr) (zs : List Int) : Prop :=
  AreBytes zs ∧ (zs = [] ∨ ∃ b off, a = some ⟨b, off, none⟩ ∧ ∀ i, i < zs.length → w.cell? ⟨b, off + i, none⟩ = some (.int .u8 (zs.getD i 0)))
def getE (zs : List Int) (at' width : Int) : Int :=
  if isW width = false ∨ at' < 0 ∨ (zs.length : Int) < at' then 1 else if (zs.length : Int) - at' < width then 10 else 0
def getN (zs : List Int) (at' width : Int) : Int :=
  if getE zs at' width = 0 then leN ((zs.drop at'.toNat).take width.toNat) else 0
theorem isW_cases {n : Int} (h : isW n = true) : n = 1 ∨ n = 2 ∨ n = 4 := by
  simp [isW] at h
  omega
theorem get_ok (b off k wd cap : Nat) (zs : List Int) (w : World) (hz : AreBytes zs) (hc : ∀ i, i < zs.length → w.cell? ⟨b, off + i, none⟩ = some (.int .u8 (zs.getD i 0)))
    (hm : zs.length ≤ maxLen) (hw : wd = 1 ∨ wd = 2 ∨ wd = 4) (hk : k + wd ≤ zs.length) :
    Calls Tryz.prog 137 #[.slice (some ⟨b, off, none⟩) zs.length cap, .int .i64 k, .int .i64 wd] w fun e w' => e = .returned (.tuple #[.int .u32 (leN ((zs.drop k).take wd)), .int .i64 0]) ∧ w' = w := by
  have hW : isW (wd : Int) = true := by rcases hw with rfl | rfl | rfl <;> rfl
  have hw4 : wd ≤ 4 := by omega
  unfold maxLen at hm
  go_enter Tryz.func137, Tryz.ntmps137
  go_wp2_with (first | (go_at_call 168; refine (isWidth_any _ _).mono ?_; rintro e w' ⟨rfl, rfl⟩))
  go_loop [8, 30] (fun n i => ∃ j : Nat, j ≤ wd ∧ i = .int .i64 j ∧ n = .int .u32 (leN ((zs.drop k).take j))) (fun _ i => wd - (intOf i).toNat)
  case atStart => exact ⟨0, Nat.zero_le _, rfl, rfl⟩
  case round =>
    obtain ⟨j, hj, rfl, rfl⟩ := hrel
    by_cases hlt : j < wd
    · have hcell := hc (k + j) (by omega)
      go_wp2
      go_round
      case rel => exact ⟨j + 1, by omega, by go_num, by rw [leN_step zs hz k j (by omega) (by omega)]⟩
      case measure => simp [intOf]; omega
    · go_wp2
      go_ret2
      have e : j = wd := by omega
      subst e
      exact ⟨rfl, rfl⟩
theorem get_any (a : Option Addr) (cap : Nat) (zs : List Int) (at' width : Int) (w : World) (hl : Lies w a zs) (hm : zs.length ≤ maxLen) (ha : -9223372036854775808 ≤ at' ∧ at' ≤ 9223372036854775807) :
    Calls Tryz.prog 137 #[.slice a zs.length cap, .int .i64 at', .int .i64 width] w fun e w' => e = .returned (.tuple #[.int .u32 (getN zs at' width), .int .i64 (getE zs at' width)]) ∧ w' = w := by
  by_cases h1 : isW width = false
  · have e : getE zs at' width = 1 := by simp [getE, h1]
    have e' : getN zs at' width = 0 := by simp [getN, e]
    rw [e, e']
    clear e e'
    unfold maxLen at hm
    go_enter Tryz.func137, Tryz.ntmps137
    go_wp2_with (first | (go_at_call 168; refine (isWidth_any _ _).mono ?_; rintro e w' ⟨rfl, rfl⟩))
    go_ret2
    exact ⟨rfl, rfl⟩
  · replace h1 : isW width = true := by simpa using h1
    by_cases h2 : at' < 0
    · have e : getE zs at' width = 1 := by simp [getE, h2]
      have e' : getN zs at' width = 0 := by simp [getN, e]
      rw [e, e']
      clear e e'
      unfold maxLen at hm
      go_enter Tryz.func137, Tryz.ntmps137
      go_wp2_with (first | (go_at_call 168; refine (isWidth_any _ _).mono ?_; rintro e w' ⟨rfl, rfl⟩))
      go_ret2
      exact ⟨rfl, rfl⟩
    · by_cases h3 : (zs.length : Int) < at'
      · have e : getE zs at' width = 1 := by simp [getE, h3]
        have e' : getN zs at' width = 0 := by simp [getN, e]
        rw [e, e']
        clear e e'
        unfold maxLen at hm
        go_enter Tryz.func137, Tryz.ntmps137
        go_wp2_with (first | (go_at_call 168; refine (isWidth_any _ _).mono ?_; rintro e w' ⟨rfl, rfl⟩))
        go_ret2
        exact ⟨rfl, rfl⟩
      · obtain ⟨k, rfl⟩ : ∃ k : Nat, at' = k := ⟨at'.toNat, by omega⟩
        by_cases h4 : (zs.length : Int) - k < width
        · have e : getE zs k width = 10 := by simp only [getE]; rw [if_neg (by simp [h1]; omega), if_pos h4]
          have e' : getN zs k width = 0 := by simp [getN, e]
          rw [e, e']
          clear e e'
          unfold maxLen at hm
          go_enter Tryz.func137, Tryz.ntmps137
          go_wp2_with (first | (go_at_call 168; refine (isWidth_any _ _).mono ?_; rintro e w' ⟨rfl, rfl⟩))
          go_ret2
          exact ⟨rfl, rfl⟩
        · have e : getE zs k width = 0 := by simp only [getE]; rw [if_neg (by simp [h1]; omega), if_neg h4]
          have hwc := isW_cases h1
          obtain ⟨wd, rfl⟩ : ∃ wd : Nat, width = wd := ⟨width.toNat, by omega⟩
          have e' : getN zs k wd = leN ((zs.drop k).take wd) := by simp [getN, e]
          rw [e, e']
          obtain ⟨hz, hb⟩ := hl
          rcases hb with rfl | ⟨b, off, rfl, hc⟩
          · simp at h4; omega
          · exact get_ok b off k wd cap zs w hz hc hm (by omega) (by omega)
theorem refGet_ok (b off k wd cap : Nat) (zs : List Int) (w : World) (hz : AreBytes zs) (hc : ∀ i, i < zs.length → w.cell? ⟨b, off + i, none⟩ = some (.int .u8 (zs.getD i 0)))
    (hm : zs.length ≤ maxLen) (hw : wd = 1 ∨ wd = 2 ∨ wd = 4) (hk : k + wd ≤ zs.length) :
    Calls Tryz.prog 89 #[.slice (some ⟨b, off, none⟩) zs.length cap, .int .i64 k, .int .i64 wd] w fun e w' => e = .returned (.tuple #[.int .u32 (partN zs k wd), .int .i64 0]) ∧ w' = w := by
  have hk0 : ¬ ((k : Int) < 0) := by omega
  unfold maxLen at hm
  rcases hw with rfl | rfl | rfl
  · go_enter Tryz.func89, Tryz.ntmps89
    go_wp2
    go_loop [8, 9] (fun n i => ∃ j m : Nat, j + m ≤ 1 ∧ 1 ≤ j + m ∧ i = .int .i64 ((j : Int) - 1) ∧ n = .int .u32 (partN zs (k + j) m)) (fun _ i => (intOf i + 1).toNat)
    case atStart => exact ⟨1, 0, Nat.le_refl _, Nat.le_refl _, rfl, by simp [partN, leN]⟩
    case round =>
      obtain ⟨j, m, hj, hjm, rfl, rfl⟩ := hrel
      by_cases hlt : j = 0
      · subst hlt
        go_wp2
        go_ret2
        have e : m = 1 := by omega
        subst e
        exact ⟨rfl, rfl⟩
      · obtain ⟨i, rfl⟩ : ∃ i : Nat, j = i + 1 := ⟨j - 1, by omega⟩
        have hcell := hc (k + i) (by omega)
        go_wp2
        go_round
        case rel => exact ⟨i, m + 1, by omega, by omega, by go_num, by rw [← partN_down zs hz (k + i) m (by omega) (by omega) (by omega)]; rfl⟩
        case measure => simp [intOf]
  · go_enter Tryz.func89, Tryz.ntmps89
    go_wp2
    go_loop [8, 9] (fun n i => ∃ j m : Nat, j + m ≤ 2 ∧ 2 ≤ j + m ∧ i = .int .i64 ((j : Int) - 1) ∧ n = .int .u32 (partN zs (k + j) m)) (fun _ i => (intOf i + 1).toNat)
    case atStart => exact ⟨2, 0, Nat.le_refl _, Nat.le_refl _, rfl, by simp [partN, leN]⟩
    case round =>
      obtain ⟨j, m, hj, hjm, rfl, rfl⟩ := hrel
      by_cases hlt : j = 0
      · subst hlt
        go_wp2
        go_ret2
        have e : m = 2 := by omega
        subst e
        exact ⟨rfl, rfl⟩
      · obtain ⟨i, rfl⟩ : ∃ i : Nat, j = i + 1 := ⟨j - 1, by omega⟩
        have hcell := hc (k + i) (by omega)
        go_wp2
        go_round
        case rel => exact ⟨i, m + 1, by omega, by omega, by go_num, by rw [← partN_down zs hz (k + i) m (by omega) (by omega) (by omega)]; rfl⟩
        case measure => simp [intOf]
  · go_enter Tryz.func89, Tryz.ntmps89
    go_wp2
    go_loop [8, 9] (fun n i => ∃ j m : Nat, j + m ≤ 4 ∧ 4 ≤ j + m ∧ i = .int .i64 ((j : Int) - 1) ∧ n = .int .u32 (partN zs (k + j) m)) (fun _ i => (intOf i + 1).toNat)
    case atStart => exact ⟨4, 0, Nat.le_refl _, Nat.le_refl _, rfl, by simp [partN, leN]⟩
    case round =>
      obtain ⟨j, m, hj, hjm, rfl, rfl⟩ := hrel
      by_cases hlt : j = 0
      · subst hlt
        go_wp2
        go_ret2
        have e : m = 4 := by omega
        subst e
        exact ⟨rfl, rfl⟩
      · obtain ⟨i, rfl⟩ : ∃ i : Nat, j = i + 1 := ⟨j - 1, by omega⟩
        have hcell := hc (k + i) (by omega)
        go_wp2
        go_round
        case rel => exact ⟨i, m + 1, by omega, by omega, by go_num, by rw [← partN_down zs hz (k + i) m (by omega) (by omega) (by omega)]; rfl⟩
        case measure => simp [intOf]
end Go.Proofs.YtmndccbeddaphaaGreatDoor.O
