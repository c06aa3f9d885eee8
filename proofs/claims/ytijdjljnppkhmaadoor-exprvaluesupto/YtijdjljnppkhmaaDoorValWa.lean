/- ExprValues: the walk where one of the two is not right. -/
import Derived.Test.YtijdjljnppkhmaaDoorValW0
import Derived.Test.YtijdjljnppkhmaaDoorQuietB
import Derived.Test.YtijdjljnppkhmaaDoorNumbersW
import Derived.Test.YtijdjljnppkhmaaDoorLinF
import Derived.Deep.RegionWith
import Derived.Deep.RegionHeld3
import Derived.Deep.RegionLaw
import Derived.Deep.AppendLies
import Derived.Deep.DeepCutAuto
import Derived.BigRegion
namespace Go.Proofs.YtijdjljnppkhmaaDoor
open Go.ChangeShapes Go.WideShapes Go.ChangeAt Go.RowKit Go.WideMaps Go.Maps
set_option linter.unusedVariables false
set_option maxRecDepth 100000

set_option maxHeartbeats 8000000 in
theorem values_no1 (a1 a2 a3 : Option Addr) (c1 c2 c3 : Nat) (xs ys : List Tm) (vs : List Int) (k1 k2 n : Int) (w : World) (h1 : Held w a1 c1 xs) (h2 : Held w a2 c2 ys) (h3 : IntLies w a3 vs) (hP : Pow w)
    (hl1 : xs.length ≤ 1100000) (hl2 : ys.length ≤ 1100000) (hl3 : vs.length ≤ 1100000) (hn1 : ∀ t ∈ xs, t.name.length ≤ 1100000) (hn2 : ∀ t ∈ ys, t.name.length ≤ 1100000) (hk1 : 0 ≤ k1 ∧ k1 < 4294967296) (hk2 : 0 ≤ k2 ∧ k2 < 4294967296) (hvs : ∀ v ∈ vs, 0 ≤ v ∧ v < 4294967296)
    (r2 : Bool) (hr1 : rightF none xs = false) (hr2 : rightF none ys = r2)  :
    Calls Tryd.prog 6 #[linV (.slice a1 xs.length c1) k1, linV (.slice a2 ys.length c2) k2, .int .u32 n, .slice a3 vs.length c3] w fun e w' => Below w.heap.size w w' ∧ e = .returned (.bool true) := by
  obtain ⟨m1, hm1⟩ : ∃ m, m = xs.length := ⟨_, rfl⟩
  obtain ⟨m2, hm2⟩ : ∃ m, m = ys.length := ⟨_, rfl⟩
  obtain ⟨m3, hm3⟩ : ∃ m, m = vs.length := ⟨_, rfl⟩
  have hR1 := Hid.intro (fun w' (h : Held w' a1 c1 xs) => refRight_any a1 c1 xs k1 w' h.lies (by omega) hn1)
  have hR2 := Hid.intro (fun w' (h : Held w' a2 c2 ys) => refRight_any a2 c2 ys k2 w' h.lies (by omega) hn2)
  rw [hr1, ← hm1] at hR1
  rw [hr2, ← hm2] at hR2
  rw [← hm1, ← hm2, ← hm3]
  have hM1 := Hid.intro hm1
  have hM2 := Hid.intro hm2
  have hM3 := Hid.intro hm3
  have hl1' : (m1 : Int) ≤ 1100000 := by omega
  have hl2' : (m2 : Int) ≤ 1100000 := by omega
  have hl3' : (m3 : Int) ≤ 1100000 := by omega
  have hI := Hid.intro (And.intro h1 (And.intro h2 (And.intro h3 hP)))
  have hN1 := Hid.intro hn1
  have hN2 := Hid.intro hn2
  have hK1 := Hid.intro hk1
  have hK2 := Hid.intro hk2
  have hVS := Hid.intro hvs
  clear hm1 hm2 hm3 hr1 hr2 hn1 hn2 h1 h2 h3 hP hk1 hk2 hvs
  go_enter Tryd.func6, Tryd.ntmps6
  go_wp2_with fail
  have q1 := ((two_new w 25 (.slice a1 m1 c1) (.int .u32 k1)).alloc (.cells #[.slice a2 m2 c2, .int .u32 k2] 25))
  have q2 := (two_new (w.alloc (.cells #[.slice a1 m1 c1, .int .u32 k1] 25)) 25 (.slice a2 m2 c2) (.int .u32 k2))
  rw [show (w.alloc (.cells #[.slice a1 m1 c1, .int .u32 k1] 25)).heap.size = w.heap.size + 1 by simp] at q2
  have hb0 : Below w.heap.size w ((w.alloc (.cells #[.slice a1 m1 c1, .int .u32 k1] 25)).alloc (.cells #[.slice a2 m2 c2, .int .u32 k2] 25)) := ((below_alloc w _).alloc (by simp) _)
  obtain ⟨g2, hg2⟩ : ∃ g, g = w.heap.size + 1 := ⟨_, rfl⟩
  rw [← hg2] at q2 ⊢
  have hB := Hid.intro (B2.mk q1 q2 (hI.out.1.below hb0 (Nat.le_refl _)) (hI.out.2.1.below hb0 (Nat.le_refl _)) (hI.out.2.2.1.below hb0 (Nat.le_refl _)) (hI.out.2.2.2.below hb0))
  have hbw := Hid.intro hb0
  obtain ⟨_, x0, x1, _, _⟩ := q1
  clear q2 hb0 hI hg2
  generalize ((w.alloc (.cells #[.slice a1 m1 c1, .int .u32 k1] 25)).alloc (.cells #[.slice a2 m2 c2, .int .u32 k2] 25)) = w0 at *
  go_wp2_with (first
    | (go_at_call 23; (with_reducible refine (hR1.out _ hB.out.h1).mono ?_); rintro e wa ⟨rfl, hba⟩; have hBa := Hid.intro (hB.out.below hba); have hbwa := Hid.intro (chainV hbw.out hba); clear hba; obtain ⟨_, y0, y1, _, _⟩ := hBa.out.q2)
    | (go_at_call 23; (with_reducible refine (hR2.out _ hBa.out.h2).mono ?_); rintro e wx ⟨rfl, hbx⟩; have hBx := Hid.intro (hBa.out.below hbx); have hbwx := Hid.intro (chainV hbwa.out hbx); clear hbx)
    | (go_at_call 14; (with_reducible refine (known_any _ hBa.out.P).mono ?_); rintro e wk ⟨hbk, rfl⟩; have hbwk := Hid.intro (chainV hbwa.out hbk); clear hbk))
  all_goals go_ret
  all_goals exact ⟨hbwk.out, rfl⟩

set_option maxHeartbeats 8000000 in
theorem values_no2 (a1 a2 a3 : Option Addr) (c1 c2 c3 : Nat) (xs ys : List Tm) (vs : List Int) (k1 k2 n : Int) (w : World) (h1 : Held w a1 c1 xs) (h2 : Held w a2 c2 ys) (h3 : IntLies w a3 vs) (hP : Pow w)
    (hl1 : xs.length ≤ 1100000) (hl2 : ys.length ≤ 1100000) (hl3 : vs.length ≤ 1100000) (hn1 : ∀ t ∈ xs, t.name.length ≤ 1100000) (hn2 : ∀ t ∈ ys, t.name.length ≤ 1100000) (hk1 : 0 ≤ k1 ∧ k1 < 4294967296) (hk2 : 0 ≤ k2 ∧ k2 < 4294967296) (hvs : ∀ v ∈ vs, 0 ≤ v ∧ v < 4294967296)
    (hr1 : rightF none xs = true) (hr2 : rightF none ys = false)  :
    Calls Tryd.prog 6 #[linV (.slice a1 xs.length c1) k1, linV (.slice a2 ys.length c2) k2, .int .u32 n, .slice a3 vs.length c3] w fun e w' => Below w.heap.size w w' ∧ e = .returned (.bool true) := by
  obtain ⟨m1, hm1⟩ : ∃ m, m = xs.length := ⟨_, rfl⟩
  obtain ⟨m2, hm2⟩ : ∃ m, m = ys.length := ⟨_, rfl⟩
  obtain ⟨m3, hm3⟩ : ∃ m, m = vs.length := ⟨_, rfl⟩
  have hR1 := Hid.intro (fun w' (h : Held w' a1 c1 xs) => refRight_any a1 c1 xs k1 w' h.lies (by omega) hn1)
  have hR2 := Hid.intro (fun w' (h : Held w' a2 c2 ys) => refRight_any a2 c2 ys k2 w' h.lies (by omega) hn2)
  rw [hr1, ← hm1] at hR1
  rw [hr2, ← hm2] at hR2
  rw [← hm1, ← hm2, ← hm3]
  have hM1 := Hid.intro hm1
  have hM2 := Hid.intro hm2
  have hM3 := Hid.intro hm3
  have hl1' : (m1 : Int) ≤ 1100000 := by omega
  have hl2' : (m2 : Int) ≤ 1100000 := by omega
  have hl3' : (m3 : Int) ≤ 1100000 := by omega
  have hI := Hid.intro (And.intro h1 (And.intro h2 (And.intro h3 hP)))
  have hN1 := Hid.intro hn1
  have hN2 := Hid.intro hn2
  have hK1 := Hid.intro hk1
  have hK2 := Hid.intro hk2
  have hVS := Hid.intro hvs
  clear hm1 hm2 hm3 hr1 hr2 hn1 hn2 h1 h2 h3 hP hk1 hk2 hvs
  go_enter Tryd.func6, Tryd.ntmps6
  go_wp2_with fail
  have q1 := ((two_new w 25 (.slice a1 m1 c1) (.int .u32 k1)).alloc (.cells #[.slice a2 m2 c2, .int .u32 k2] 25))
  have q2 := (two_new (w.alloc (.cells #[.slice a1 m1 c1, .int .u32 k1] 25)) 25 (.slice a2 m2 c2) (.int .u32 k2))
  rw [show (w.alloc (.cells #[.slice a1 m1 c1, .int .u32 k1] 25)).heap.size = w.heap.size + 1 by simp] at q2
  have hb0 : Below w.heap.size w ((w.alloc (.cells #[.slice a1 m1 c1, .int .u32 k1] 25)).alloc (.cells #[.slice a2 m2 c2, .int .u32 k2] 25)) := ((below_alloc w _).alloc (by simp) _)
  obtain ⟨g2, hg2⟩ : ∃ g, g = w.heap.size + 1 := ⟨_, rfl⟩
  rw [← hg2] at q2 ⊢
  have hB := Hid.intro (B2.mk q1 q2 (hI.out.1.below hb0 (Nat.le_refl _)) (hI.out.2.1.below hb0 (Nat.le_refl _)) (hI.out.2.2.1.below hb0 (Nat.le_refl _)) (hI.out.2.2.2.below hb0))
  have hbw := Hid.intro hb0
  obtain ⟨_, x0, x1, _, _⟩ := q1
  clear q2 hb0 hI hg2
  generalize ((w.alloc (.cells #[.slice a1 m1 c1, .int .u32 k1] 25)).alloc (.cells #[.slice a2 m2 c2, .int .u32 k2] 25)) = w0 at *
  go_wp2_with (first
    | (go_at_call 23; (with_reducible refine (hR1.out _ hB.out.h1).mono ?_); rintro e wa ⟨rfl, hba⟩; have hBa := Hid.intro (hB.out.below hba); have hbwa := Hid.intro (chainV hbw.out hba); clear hba; obtain ⟨_, y0, y1, _, _⟩ := hBa.out.q2)
    | (go_at_call 23; (with_reducible refine (hR2.out _ hBa.out.h2).mono ?_); rintro e wx ⟨rfl, hbx⟩; have hBx := Hid.intro (hBa.out.below hbx); have hbwx := Hid.intro (chainV hbwa.out hbx); clear hbx)
    | (go_at_call 14; (with_reducible refine (known_any _ hBx.out.P).mono ?_); rintro e wk ⟨hbk, rfl⟩; have hbwk := Hid.intro (chainV hbwx.out hbk); clear hbk))
  all_goals go_ret
  all_goals exact ⟨hbwk.out, rfl⟩

end Go.Proofs.YtijdjljnppkhmaaDoor
