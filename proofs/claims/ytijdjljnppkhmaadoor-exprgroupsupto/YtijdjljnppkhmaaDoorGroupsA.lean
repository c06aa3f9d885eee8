/- ExprGroups: the walk where one of the three is not right; and both. -/
import Derived.Test.YtijdjljnppkhmaaDoorGroupsW
namespace Go.Proofs.YtijdjljnppkhmaaDoor
open Go.ChangeShapes Go.WideShapes Go.ChangeAt Go.RowKit
set_option linter.unusedVariables false
set_option maxRecDepth 100000

set_option maxHeartbeats 4000000 in
theorem groups_else (r1 r2 r3 : Bool) (hno : (r1 && (r2 && r3)) = false) (a1 a2 a3 : Option Addr) (c1 c2 c3 : Nat) (xs ys zs : List Tm) (k1 k2 k3 n : Int) (w : World) (hI : In3 w a1 a2 a3 c1 c2 c3 xs ys zs) (hP : Pow w)
    (hl1 : xs.length ≤ 1100000) (hl2 : ys.length ≤ 1100000) (hl3 : zs.length ≤ 1100000) (hn1 : ∀ t ∈ xs, t.name.length ≤ 1100000) (hn2 : ∀ t ∈ ys, t.name.length ≤ 1100000) (hn3 : ∀ t ∈ zs, t.name.length ≤ 1100000)
    (hr1 : rightF none xs = r1) (hr2 : rightF none ys = r2) (hr3 : rightF none zs = r3) :
    Calls Tryd.prog 8 #[linV (.slice a1 xs.length c1) k1, linV (.slice a2 ys.length c2) k2, linV (.slice a3 zs.length c3) k3, .int .u32 n] w fun e w' => Below w.heap.size w w' ∧ e = .returned (.bool true) := by
  obtain ⟨m1, hm1⟩ : ∃ m, m = xs.length := ⟨_, rfl⟩
  obtain ⟨m2, hm2⟩ : ∃ m, m = ys.length := ⟨_, rfl⟩
  obtain ⟨m3, hm3⟩ : ∃ m, m = zs.length := ⟨_, rfl⟩
  have hR1 := Hid.intro (fun w' (h : Held w' a1 c1 xs) => right_any a1 c1 xs k1 w' h.lies (by omega) hn1)
  have hR2 := Hid.intro (fun w' (h : Held w' a2 c2 ys) => right_any a2 c2 ys k2 w' h.lies (by omega) hn2)
  have hR3 := Hid.intro (fun w' (h : Held w' a3 c3 zs) => right_any a3 c3 zs k3 w' h.lies (by omega) hn3)
  rw [hr1, ← hm1] at hR1
  rw [hr2, ← hm2] at hR2
  rw [hr3, ← hm3] at hR3
  rw [← hm1, ← hm2, ← hm3]
  have hIH := Hid.intro hI
  have hPH := Hid.intro hP
  clear hm1 hm2 hm3 hr1 hr2 hr3 hn1 hn2 hn3 hI hP
  go_enter Tryd.func8, Tryd.ntmps8
  go_wp2_with fail
  have q1 := (((two_new w 25 (.slice a1 m1 c1) (.int .u32 k1)).alloc (.cells #[.slice a2 m2 c2, .int .u32 k2] 25)).alloc (.cells #[.slice a3 m3 c3, .int .u32 k3] 25))
  have q2 := ((two_new (w.alloc (.cells #[.slice a1 m1 c1, .int .u32 k1] 25)) 25 (.slice a2 m2 c2) (.int .u32 k2)).alloc (.cells #[.slice a3 m3 c3, .int .u32 k3] 25))
  have q3 := (two_new ((w.alloc (.cells #[.slice a1 m1 c1, .int .u32 k1] 25)).alloc (.cells #[.slice a2 m2 c2, .int .u32 k2] 25)) 25 (.slice a3 m3 c3) (.int .u32 k3))
  rw [show (w.alloc (.cells #[.slice a1 m1 c1, .int .u32 k1] 25)).heap.size = w.heap.size + 1 by simp] at q2
  rw [show ((w.alloc (.cells #[.slice a1 m1 c1, .int .u32 k1] 25)).alloc (.cells #[.slice a2 m2 c2, .int .u32 k2] 25)).heap.size = w.heap.size + 1 + 1 by simp] at q3
  have hb0 : Below w.heap.size w (((w.alloc (.cells #[.slice a1 m1 c1, .int .u32 k1] 25)).alloc (.cells #[.slice a2 m2 c2, .int .u32 k2] 25)).alloc (.cells #[.slice a3 m3 c3, .int .u32 k3] 25)) := ((below_alloc w _).alloc (by simp) _).alloc (by simp; omega) _
  have hI0 := hIH.out.below hb0
  have hP0 := hPH.out.below hb0
  obtain ⟨g2, hg2⟩ : ∃ g, g = w.heap.size + 1 := ⟨_, rfl⟩
  rw [← hg2] at q2 q3 ⊢
  obtain ⟨g3, hg3⟩ : ∃ g, g = g2 + 1 := ⟨_, rfl⟩
  rw [← hg3] at q3 ⊢
  have hB := Hid.intro (B3.mk q1 q2 q3 hI0 hP0)
  have hbw := Hid.intro hb0
  obtain ⟨_, x0, x1, _, _⟩ := q1
  clear q2 q3 hI0 hP0 hb0 hIH hPH hg2 hg3
  generalize (((w.alloc (.cells #[.slice a1 m1 c1, .int .u32 k1] 25)).alloc (.cells #[.slice a2 m2 c2, .int .u32 k2] 25)).alloc (.cells #[.slice a3 m3 c3, .int .u32 k3] 25)) = w0 at *
  cases r1 with
  | false =>
    go_wp2_with (first
      | (go_at_call 22; (with_reducible refine (hR1.out _ hB.out.I.h1).mono ?_); rintro e wa ⟨rfl, hba⟩; have hBa := Hid.intro (hB.out.below hba); have hbwa := Hid.intro (hbw.out.trans (hba.mono hbw.out.size)); obtain ⟨_, y0, y1, _, _⟩ := hBa.out.q2)
      | (go_at_call 22; (with_reducible refine (hR2.out _ hBa.out.I.h2).mono ?_); rintro e wb ⟨rfl, hbb⟩; have hBb := Hid.intro (hBa.out.below hbb); have hbwb := Hid.intro (hbwa.out.trans (hbb.mono hbwa.out.size)); obtain ⟨_, z0, z1, _, _⟩ := hBb.out.q3)
      | (go_at_call 22; (with_reducible refine (hR3.out _ hBb.out.I.h3).mono ?_); rintro e wx ⟨rfl, hbx⟩; have hBx := Hid.intro (hBb.out.below hbx); have hbwx := Hid.intro (hbwb.out.trans (hbx.mono hbwb.out.size)))
      | (go_at_call 14; (with_reducible refine (known_any _ hBa.out.P).mono ?_); rintro e wk ⟨hbk, rfl⟩; have hbwk := Hid.intro (chain' hbwa.out hbk))
      | (go_at_call 14; (with_reducible refine (known_any _ hBb.out.P).mono ?_); rintro e wk ⟨hbk, rfl⟩; have hbwk := Hid.intro (chain' hbwb.out hbk))
      | (go_at_call 14; (with_reducible refine (known_any _ hBx.out.P).mono ?_); rintro e wk ⟨hbk, rfl⟩; have hbwk := Hid.intro (chain' hbwx.out hbk)))
    all_goals go_ret
    all_goals exact ⟨hbwk.out, rfl⟩

  | true =>
    cases r2 with
    | false =>
      go_wp2_with (first
        | (go_at_call 22; (with_reducible refine (hR1.out _ hB.out.I.h1).mono ?_); rintro e wa ⟨rfl, hba⟩; have hBa := Hid.intro (hB.out.below hba); have hbwa := Hid.intro (hbw.out.trans (hba.mono hbw.out.size)); obtain ⟨_, y0, y1, _, _⟩ := hBa.out.q2)
        | (go_at_call 22; (with_reducible refine (hR2.out _ hBa.out.I.h2).mono ?_); rintro e wb ⟨rfl, hbb⟩; have hBb := Hid.intro (hBa.out.below hbb); have hbwb := Hid.intro (hbwa.out.trans (hbb.mono hbwa.out.size)); obtain ⟨_, z0, z1, _, _⟩ := hBb.out.q3)
        | (go_at_call 22; (with_reducible refine (hR3.out _ hBb.out.I.h3).mono ?_); rintro e wx ⟨rfl, hbx⟩; have hBx := Hid.intro (hBb.out.below hbx); have hbwx := Hid.intro (hbwb.out.trans (hbx.mono hbwb.out.size)))
        | (go_at_call 14; (with_reducible refine (known_any _ hBa.out.P).mono ?_); rintro e wk ⟨hbk, rfl⟩; have hbwk := Hid.intro (chain' hbwa.out hbk))
        | (go_at_call 14; (with_reducible refine (known_any _ hBb.out.P).mono ?_); rintro e wk ⟨hbk, rfl⟩; have hbwk := Hid.intro (chain' hbwb.out hbk))
        | (go_at_call 14; (with_reducible refine (known_any _ hBx.out.P).mono ?_); rintro e wk ⟨hbk, rfl⟩; have hbwk := Hid.intro (chain' hbwx.out hbk)))
      all_goals go_ret
      all_goals exact ⟨hbwk.out, rfl⟩

    | true =>
      cases r3 with
      | false =>
        go_wp2_with (first
          | (go_at_call 22; (with_reducible refine (hR1.out _ hB.out.I.h1).mono ?_); rintro e wa ⟨rfl, hba⟩; have hBa := Hid.intro (hB.out.below hba); have hbwa := Hid.intro (hbw.out.trans (hba.mono hbw.out.size)); obtain ⟨_, y0, y1, _, _⟩ := hBa.out.q2)
          | (go_at_call 22; (with_reducible refine (hR2.out _ hBa.out.I.h2).mono ?_); rintro e wb ⟨rfl, hbb⟩; have hBb := Hid.intro (hBa.out.below hbb); have hbwb := Hid.intro (hbwa.out.trans (hbb.mono hbwa.out.size)); obtain ⟨_, z0, z1, _, _⟩ := hBb.out.q3)
          | (go_at_call 22; (with_reducible refine (hR3.out _ hBb.out.I.h3).mono ?_); rintro e wx ⟨rfl, hbx⟩; have hBx := Hid.intro (hBb.out.below hbx); have hbwx := Hid.intro (hbwb.out.trans (hbx.mono hbwb.out.size)))
          | (go_at_call 14; (with_reducible refine (known_any _ hBa.out.P).mono ?_); rintro e wk ⟨hbk, rfl⟩; have hbwk := Hid.intro (chain' hbwa.out hbk))
          | (go_at_call 14; (with_reducible refine (known_any _ hBb.out.P).mono ?_); rintro e wk ⟨hbk, rfl⟩; have hbwk := Hid.intro (chain' hbwb.out hbk))
          | (go_at_call 14; (with_reducible refine (known_any _ hBx.out.P).mono ?_); rintro e wk ⟨hbk, rfl⟩; have hbwk := Hid.intro (chain' hbwx.out hbk)))
        all_goals go_ret
        all_goals exact ⟨hbwk.out, rfl⟩

      | true => cases hno

theorem groups_any (a1 a2 a3 : Option Addr) (c1 c2 c3 : Nat) (xs ys zs : List Tm) (k1 k2 k3 n : Int) (w : World) (hI : In3 w a1 a2 a3 c1 c2 c3 xs ys zs) (hP : Pow w)
    (hl1 : xs.length ≤ 1100000) (hl2 : ys.length ≤ 1100000) (hl3 : zs.length ≤ 1100000) (hn1 : ∀ t ∈ xs, t.name.length ≤ 1100000) (hn2 : ∀ t ∈ ys, t.name.length ≤ 1100000) (hn3 : ∀ t ∈ zs, t.name.length ≤ 1100000) :
    Calls Tryd.prog 8 #[linV (.slice a1 xs.length c1) k1, linV (.slice a2 ys.length c2) k2, linV (.slice a3 zs.length c3) k3, .int .u32 n] w fun e w' => Below w.heap.size w w' ∧ e = .returned (.bool true) := by
  cases h : (rightF none xs && (rightF none ys && rightF none zs)) with
  | false => exact groups_else _ _ _ h a1 a2 a3 c1 c2 c3 xs ys zs k1 k2 k3 n w hI hP hl1 hl2 hl3 hn1 hn2 hn3 rfl rfl rfl
  | true =>
    simp only [Bool.and_eq_true] at h
    exact groups_right a1 a2 a3 c1 c2 c3 xs ys zs k1 k2 k3 n w hI hP hl1 hl2 hl3 hn1 hn2 hn3 h.1 h.2.1 h.2.2
end Go.Proofs.YtijdjljnppkhmaaDoor
