/- ExprGroups: the walk. -/
import Derived.Test.YtijdjljnppkhmaaDoorNumbersW
import Derived.Test.YtijdjljnppkhmaaDoorGroupsM
import Derived.Test.YtijdjljnppkhmaaDoorLinF
import Derived.Deep.RegionWith
import Derived.Deep.RegionHeld3
import Derived.Deep.RegionLaw
import Derived.Deep.DeepCutAuto
import Derived.BigRegion
namespace Go.Proofs.YtijdjljnppkhmaaDoor
open Go.ChangeShapes Go.WideShapes Go.ChangeAt Go.RowKit
set_option linter.unusedVariables false
set_option maxRecDepth 100000

/-- at block g lies a Lin -/
def LinAt (w : World) (g : Nat) (ts : List Tm) (k : Int) : Prop := ∃ a c, Two w g 25 (.slice a ts.length c) (.int .u32 k) ∧ Held w a c ts

theorem LinAt.below {w w' : World} {g : Nat} {ts : List Tm} {k : Int} (h : LinAt w g ts k) (hb : Below w.heap.size w w') : LinAt w' g ts k := by
  obtain ⟨a, c, h1, h2⟩ := h
  exact ⟨a, c, h1.below hb h1.lt, h2.below hb (Nat.le_refl _)⟩

/-- Add, of what lies in memory -/
theorem add_held (a1 a2 : Option Addr) (c1 c2 : Nat) (xs ys : List Tm) (k1 k2 : Int) (n1 n2 : Nat) (w : World) (h1 : n1 = xs.length) (h2 : n2 = ys.length) (hx : Held w a1 c1 xs) (hy : Held w a2 c2 ys) (hl1 : xs.length ≤ 4400000) (hl2 : ys.length ≤ 4400000) :
    Calls Tryd.prog 24 #[linV (.slice a1 n1 c1) k1, linV (.slice a2 n2 c2) k2] w fun e w' => Below w.heap.size w w' ∧ ∃ a c m, e = .returned (linV (.slice a m c) ((k1 + k2) % 4294967296)) ∧ m = (addT xs ys).length ∧ w'.ownsRow w.heap.size 56 2 (.slice a m c) (addT xs ys).length (rowT (addT xs ys)) := by
  subst h1 h2
  refine (add_any a1 a2 c1 c2 xs ys k1 k2 w hx hy hl1 hl2).mono ?_
  rintro e w' ⟨hb, v, rfl, ho⟩
  obtain ⟨a, c, rfl⟩ := own_slice ho
  exact ⟨hb, a, c, _, rfl, rfl, ho⟩

theorem times_held (a1 : Option Addr) (c1 : Nat) (xs : List Tm) (k1 n : Int) (n1 : Nat) (w : World) (h1 : n1 = xs.length) (hx : Held w a1 c1 xs) (hl1 : xs.length ≤ 4400000) :
    Calls Tryd.prog 26 #[linV (.slice a1 n1 c1) k1, .int .u32 n] w fun e w' => Below w.heap.size w w' ∧ ∃ a c m, e = .returned (linV (.slice a m c) (k1 * n % 4294967296)) ∧ m = (timesT xs n).length ∧ w'.ownsRow w.heap.size 56 2 (.slice a m c) (timesT xs n).length (rowT (timesT xs n)) := by
  subst h1
  refine (times_any a1 c1 xs k1 n hl1 w hx.lies).mono ?_
  rintro e w' ⟨hb, v, rfl, ho⟩
  obtain ⟨a, c, rfl⟩ := own_slice ho
  exact ⟨hb, a, c, _, rfl, rfl, ho⟩

theorem same_held (a1 a2 : Option Addr) (c1 c2 : Nat) (xs ys : List Tm) (k1 k2 : Int) (n1 n2 : Nat) (w : World) (h1 : n1 = xs.length) (h2 : n2 = ys.length) (hx : Held w a1 c1 xs) (hy : Held w a2 c2 ys) (hl1 : xs.length ≤ 9000000) (hl2 : ys.length ≤ 9000000) (hs : sameL xs ys k1 k2 = true) :
    Calls Tryd.prog 28 #[linV (.slice a1 n1 c1) k1, linV (.slice a2 n2 c2) k2] w fun e w' => Below w.heap.size w w' ∧ e = .returned (.bool true) := by
  subst h1 h2
  refine (same_any a1 a2 c1 c2 xs ys k1 k2 w hx.lies hy.lies hl1 hl2).mono ?_
  rintro e w' ⟨he, hb⟩
  rw [hs] at he
  exact ⟨hb, he⟩

theorem lin_late {wx we : World} {b : Option Addr} {d m : Nat} {ts : List Tm} {k : Int} {lo : Nat} (hb : Below wx.heap.size wx we) (hn : m = ts.length) (ho : we.ownsRow lo 56 2 (.slice b m d) ts.length (rowT ts)) :
    ∃ g, Value.pointer (some ⟨we.heap.size, 0, none⟩) = .pointer (some ⟨g, 0, none⟩) ∧ Hid (LinAt (we.alloc (.cells #[.slice b m d, .int .u32 k] 25)) g ts k) ∧ Hid (Below wx.heap.size wx (we.alloc (.cells #[.slice b m d, .int .u32 k] 25))) := by
  subst hn
  exact ⟨_, rfl, ⟨b, d, two_new _ _ _ _, (own_held ho).below (below_alloc _ _) (Nat.le_refl _)⟩, hb.alloc hb.size _⟩

theorem lin_set {wx we : World} {g : Nat} {Z0 Z1 : Value} {b : Option Addr} {d m : Nat} {ts : List Tm} {k : Int} {lo : Nat} (hb : Below wx.heap.size wx we) (hT : Two we g 25 Z0 Z1) (hg : wx.heap.size ≤ g) (hn : m = ts.length) (ho : we.ownsRow lo 56 2 (.slice b m d) ts.length (rowT ts)) (hlo : g < lo) :
    ∃ g', Value.pointer (some ⟨g, 0, none⟩) = .pointer (some ⟨g', 0, none⟩) ∧ Hid (LinAt ((we.setCell ⟨g, 0, none⟩ (.slice b m d)).setCell ⟨g, 1, none⟩ (.int .u32 k)) g' ts k) ∧ Hid (Below wx.heap.size wx ((we.setCell ⟨g, 0, none⟩ (.slice b m d)).setCell ⟨g, 1, none⟩ (.int .u32 k))) := by
  subst hn
  obtain ⟨s1, s2⟩ := two_set hT.heap rfl (.slice b ts.length d) (.int .u32 k)
  exact ⟨g, rfl, ⟨b, d, s1, own_held (own_low ho s2 hlo)⟩, hb.grown s2 hb.size (fun j hj => by cases hj; exact hg)⟩

theorem add_few {xs ys : List Tm} (h1 : xs.length ≤ 1100000) (h2 : ys.length ≤ 1100000) : (addT xs ys).length ≤ 4400000 := by
  have := norm_len (xs ++ ys)
  rw [List.length_append] at this
  unfold addT
  omega
theorem times_few {xs : List Tm} (h1 : xs.length ≤ 1100000) (n : Int) : (timesT xs n).length ≤ 4400000 := by
  have := times_len xs n
  omega

theorem add_few3 {xs ys zs : List Tm} (h1 : xs.length ≤ 1100000) (h2 : ys.length ≤ 1100000) (h3 : zs.length ≤ 1100000) : (addT (addT xs ys) zs).length ≤ 9000000 := by
  have := norm_len (addT xs ys ++ zs)
  have := add_few h1 h2
  rw [List.length_append] at *
  unfold addT at *
  omega
theorem times_few2 {xs ys : List Tm} (h1 : xs.length ≤ 1100000) (h2 : ys.length ≤ 1100000) (n : Int) : (addT (timesT xs n) (timesT ys n)).length ≤ 9000000 := by
  have h3 := norm_len (timesT xs n ++ timesT ys n)
  have h4 := times_few h1 n
  have h5 := times_few h2 n
  rw [List.length_append] at h3
  unfold addT
  omega
theorem add_short {a b : List Tm} {N : Nat} (ha : ∀ t ∈ a, t.name.length ≤ N) (hb : ∀ t ∈ b, t.name.length ≤ N) : ∀ t ∈ addT a b, t.name.length ≤ N := by
  intro t ht
  obtain ⟨x, hx, he⟩ := mem_norm ht
  rw [← he]
  rcases List.mem_append.1 hx with hx | hx
  · exact ha x hx
  · exact hb x hx

/-- what comes in -/
structure In3 (w : World) (a1 a2 a3 : Option Addr) (c1 c2 c3 : Nat) (xs ys zs : List Tm) : Prop where
  h1 : Held w a1 c1 xs
  h2 : Held w a2 c2 ys
  h3 : Held w a3 c3 zs
theorem In3.below {w w' : World} {a1 a2 a3 : Option Addr} {c1 c2 c3 : Nat} {xs ys zs : List Tm} (h : In3 w a1 a2 a3 c1 c2 c3 xs ys zs) (hb : Below w.heap.size w w') : In3 w' a1 a2 a3 c1 c2 c3 xs ys zs :=
  ⟨h.h1.below hb (Nat.le_refl _), h.h2.below hb (Nat.le_refl _), h.h3.below hb (Nat.le_refl _)⟩

/-- the three of them at their blocks -/
structure B3 (W : World) (g1 g2 g3 : Nat) (a1 a2 a3 : Option Addr) (m1 m2 m3 c1 c2 c3 : Nat) (xs ys zs : List Tm) (k1 k2 k3 : Int) : Prop where
  q1 : Two W g1 25 (.slice a1 m1 c1) (.int .u32 k1)
  q2 : Two W g2 25 (.slice a2 m2 c2) (.int .u32 k2)
  q3 : Two W g3 25 (.slice a3 m3 c3) (.int .u32 k3)
  I : In3 W a1 a2 a3 c1 c2 c3 xs ys zs
  P : Pow W
theorem B3.below {W W' : World} {g1 g2 g3 : Nat} {a1 a2 a3 : Option Addr} {m1 m2 m3 c1 c2 c3 : Nat} {xs ys zs : List Tm} {k1 k2 k3 : Int} (h : B3 W g1 g2 g3 a1 a2 a3 m1 m2 m3 c1 c2 c3 xs ys zs k1 k2 k3) (hb : Below W.heap.size W W') : B3 W' g1 g2 g3 a1 a2 a3 m1 m2 m3 c1 c2 c3 xs ys zs k1 k2 k3 :=
  ⟨h.q1.below hb h.q1.lt, h.q2.below hb h.q2.lt, h.q3.below hb h.q3.lt, h.I.below hb, h.P.below hb⟩

theorem B3.drew {W : World} {g1 g2 g3 : Nat} {a1 a2 a3 : Option Addr} {m1 m2 m3 c1 c2 c3 : Nat} {xs ys zs : List Tm} {k1 k2 k3 : Int} (h : B3 W g1 g2 g3 a1 a2 a3 m1 m2 m3 c1 c2 c3 xs ys zs k1 k2 k3) : B3 W.drew g1 g2 g3 a1 a2 a3 m1 m2 m3 c1 c2 c3 xs ys zs k1 k2 k3 := h.below (Below.refl _ W).drew
theorem B3.alloc {W : World} {g1 g2 g3 : Nat} {a1 a2 a3 : Option Addr} {m1 m2 m3 c1 c2 c3 : Nat} {xs ys zs : List Tm} {k1 k2 k3 : Int} (h : B3 W g1 g2 g3 a1 a2 a3 m1 m2 m3 c1 c2 c3 xs ys zs k1 k2 k3) (o : Obj) : B3 (W.alloc o) g1 g2 g3 a1 a2 a3 m1 m2 m3 c1 c2 c3 xs ys zs k1 k2 k3 := h.below (below_alloc W o)

theorem six_ne {W : World} {g1 g2 g3 : Nat} {a1 a2 a3 : Option Addr} {m1 m2 m3 c1 c2 c3 : Nat} {xs ys zs : List Tm} {k1 k2 k3 : Int} (h : B3 W g1 g2 g3 a1 a2 a3 m1 m2 m3 c1 c2 c3 xs ys zs k1 k2 k3) : ¬ W.heap.size = g1 ∧ ¬ W.heap.size = g2 ∧ ¬ W.heap.size = g3 ∧ ¬ g1 = W.heap.size ∧ ¬ g2 = W.heap.size ∧ ¬ g3 = W.heap.size := by
  have := h.q1.lt
  have := h.q2.lt
  have := h.q3.lt
  omega

set_option maxHeartbeats 8000000 in
theorem groups_right (a1 a2 a3 : Option Addr) (c1 c2 c3 : Nat) (xs ys zs : List Tm) (k1 k2 k3 n : Int) (w : World) (hI : In3 w a1 a2 a3 c1 c2 c3 xs ys zs) (hP : Pow w)
    (hl1 : xs.length ≤ 1100000) (hl2 : ys.length ≤ 1100000) (hl3 : zs.length ≤ 1100000) (hn1 : ∀ t ∈ xs, t.name.length ≤ 1100000) (hn2 : ∀ t ∈ ys, t.name.length ≤ 1100000) (hn3 : ∀ t ∈ zs, t.name.length ≤ 1100000)
    (hr1 : rightF none xs = true) (hr2 : rightF none ys = true) (hr3 : rightF none zs = true) :
    Calls Tryd.prog 8 #[linV (.slice a1 xs.length c1) k1, linV (.slice a2 ys.length c2) k2, linV (.slice a3 zs.length c3) k3, .int .u32 n] w fun e w' => Below w.heap.size w w' ∧ e = .returned (.bool true) := by
  have hq1 : (addT xs ys).length ≤ 4400000 := by
    have := norm_len (xs ++ ys)
    rw [List.length_append] at this
    unfold addT
    omega
  obtain ⟨m1, hm1⟩ : ∃ m, m = xs.length := ⟨_, rfl⟩
  obtain ⟨m2, hm2⟩ : ∃ m, m = ys.length := ⟨_, rfl⟩
  obtain ⟨m3, hm3⟩ : ∃ m, m = zs.length := ⟨_, rfl⟩
  have hR1 := Hid.intro (fun w' (h : Held w' a1 c1 xs) => right_any a1 c1 xs k1 w' h.lies (by omega) hn1)
  have hR2 := Hid.intro (fun w' (h : Held w' a2 c2 ys) => right_any a2 c2 ys k2 w' h.lies (by omega) hn2)
  have hR3 := Hid.intro (fun w' (h : Held w' a3 c3 zs) => right_any a3 c3 zs k3 w' h.lies (by omega) hn3)
  rw [hr1, ← hm1] at hR1
  rw [hr2, ← hm2] at hR2
  rw [hr3, ← hm3] at hR3
  have hG1 := Hid.intro (right_legal hr1)
  have hG2 := Hid.intro (right_legal hr2)
  have hG3 := Hid.intro (right_legal hr3)
  rw [← hm1, ← hm2, ← hm3]
  have hM1 := Hid.intro hm1
  have hM2 := Hid.intro hm2
  have hM3 := Hid.intro hm3
  have hIH := Hid.intro hI
  have hPH := Hid.intro hP
  have hN1 := Hid.intro hn1
  have hN2 := Hid.intro hn2
  have hN3 := Hid.intro hn3
  clear hm1 hm2 hm3 hr1 hr2 hr3 hn1 hn2 hn3 hI hP
  go_enter Tryd.func8, Tryd.ntmps8
  go_wp2_with fail
  have q1 := (((two_new w 25 (.slice a1 m1 c1) (.int .u32 k1)).alloc (.cells #[.slice a2 m2 c2, .int .u32 k2] 25)).alloc (.cells #[.slice a3 m3 c3, .int .u32 k3] 25))
  have q2 := ((two_new (w.alloc (.cells #[.slice a1 m1 c1, .int .u32 k1] 25)) 25 (.slice a2 m2 c2) (.int .u32 k2)).alloc (.cells #[.slice a3 m3 c3, .int .u32 k3] 25))
  have q3 := (two_new ((w.alloc (.cells #[.slice a1 m1 c1, .int .u32 k1] 25)).alloc (.cells #[.slice a2 m2 c2, .int .u32 k2] 25)) 25 (.slice a3 m3 c3) (.int .u32 k3))
  rw [show (w.alloc (.cells #[.slice a1 m1 c1, .int .u32 k1] 25)).heap.size = w.heap.size + 1 by simp] at q2
  rw [show ((w.alloc (.cells #[.slice a1 m1 c1, .int .u32 k1] 25)).alloc (.cells #[.slice a2 m2 c2, .int .u32 k2] 25)).heap.size = w.heap.size + 1 + 1 by simp] at q3
  have hb0 : Below w.heap.size w (((w.alloc (.cells #[.slice a1 m1 c1, .int .u32 k1] 25)).alloc (.cells #[.slice a2 m2 c2, .int .u32 k2] 25)).alloc (.cells #[.slice a3 m3 c3, .int .u32 k3] 25)) := ((below_alloc w _).alloc (by simp) _).alloc (by simp; omega) _
  have hI0 := hIH.out.below hb0
  have hP0 := hPH.out.below hb0
  obtain ⟨g2, hg2⟩ : ∃ g, g = w.heap.size + 1 := ⟨_, rfl⟩
  rw [← hg2] at q2 q3 ⊢
  obtain ⟨g3, hg3⟩ : ∃ g, g = g2 + 1 := ⟨_, rfl⟩
  rw [← hg3] at q3 ⊢
  have hB := Hid.intro (B3.mk q1 q2 q3 hI0 hP0)
  have hbw := Hid.intro hb0
  obtain ⟨_, x0, x1, _, _⟩ := q1
  clear q2 q3 hI0 hP0 hb0 hIH hPH hg2 hg3
  generalize (((w.alloc (.cells #[.slice a1 m1 c1, .int .u32 k1] 25)).alloc (.cells #[.slice a2 m2 c2, .int .u32 k2] 25)).alloc (.cells #[.slice a3 m3 c3, .int .u32 k3] 25)) = w0 at *
  go_wp2_with (first
    | (go_at_call 22; (with_reducible refine (hR1.out _ hB.out.I.h1).mono ?_); rintro e wa ⟨rfl, hba⟩; have hBa := Hid.intro (hB.out.below hba); have hbwa := Hid.intro (hbw.out.trans (hba.mono hbw.out.size)); obtain ⟨_, y0, y1, _, _⟩ := hBa.out.q2)
    | (go_at_call 22; (with_reducible refine (hR2.out _ hBa.out.I.h2).mono ?_); rintro e wb ⟨rfl, hbb⟩; have hBb := Hid.intro (hBa.out.below hbb); have hbwb := Hid.intro (hbwa.out.trans (hbb.mono hbwa.out.size)); obtain ⟨_, z0, z1, _, _⟩ := hBb.out.q3)
    | (go_at_call 22; (with_reducible refine (hR3.out _ hBb.out.I.h3).mono ?_); rintro e wx ⟨rfl, hbx⟩; have hBx := Hid.intro (hBb.out.below hbx); have hbwx := Hid.intro (hbwb.out.trans (hbx.mono hbwb.out.size))))
  clear hB hBa hBb hbw hbwa hbwb hba hbb hbx x0 x1 y0 y1 z0 z1
  obtain ⟨_, x0, x1, _, _⟩ := hBx.out.q1
  obtain ⟨_, y0, y1, _, _⟩ := hBx.out.q2
  obtain ⟨_, z0, z1, _, _⟩ := hBx.out.q3
  have u0 := fun o => (hBx.out.alloc o).q1.c0
  have u1 := fun o => (hBx.out.alloc o).q1.c1
  have u2 := fun o => (hBx.out.alloc o).q2.c0
  have u3 := fun o => (hBx.out.alloc o).q2.c1
  have u4 := fun o => (hBx.out.alloc o).q3.c0
  have u5 := fun o => (hBx.out.alloc o).q3.c1
  obtain ⟨nx1, nx2, nx3, nx4, nx5, nx6⟩ := six_ne hBx.out
  have hA1 : Hid (∀ W, B3 W w.heap.size g2 g3 a1 a2 a3 m1 m2 m3 c1 c2 c3 xs ys zs k1 k2 k3 → Calls Tryd.prog 24 #[linV (.slice a1 m1 c1) k1, linV (.slice a2 m2 c2) k2] W fun e w' => Below W.heap.size W w' ∧ ∃ a c m, e = .returned (linV (.slice a m c) ((k1 + k2) % 4294967296)) ∧ m = (addT xs ys).length ∧ w'.ownsRow W.heap.size 56 2 (.slice a m c) (addT xs ys).length (rowT (addT xs ys)) ∧ w'.cell? ⟨w.heap.size, 0, none⟩ = some (.slice a1 m1 c1) ∧ w'.cell? ⟨w.heap.size, 1, none⟩ = some (.int .u32 k1) ∧ w'.cell? ⟨g2, 0, none⟩ = some (.slice a2 m2 c2) ∧ w'.cell? ⟨g2, 1, none⟩ = some (.int .u32 k2) ∧ w'.cell? ⟨g3, 0, none⟩ = some (.slice a3 m3 c3) ∧ w'.cell? ⟨g3, 1, none⟩ = some (.int .u32 k3)) :=
    fun W hW => (add_held a1 a2 c1 c2 xs ys k1 k2 m1 m2 W hM1.out hM2.out hW.I.h1 hW.I.h2 (by omega) (by omega)).mono fun e w' ⟨hb, a, c, m, he, hm, ho⟩ => by
      have B := hW.below hb
      exact ⟨hb, a, c, m, he, hm, ho, B.q1.c0, B.q1.c1, B.q2.c0, B.q2.c1, B.q3.c0, B.q3.c1⟩
  have hA2 : Hid (∀ W b1 d1 n1, n1 = (addT xs ys).length → Held W b1 d1 (addT xs ys) → B3 W w.heap.size g2 g3 a1 a2 a3 m1 m2 m3 c1 c2 c3 xs ys zs k1 k2 k3 → Calls Tryd.prog 24 #[linV (.slice b1 n1 d1) ((k1 + k2) % 4294967296), linV (.slice a3 m3 c3) k3] W fun e w' => Below W.heap.size W w' ∧ ∃ a c m, e = .returned (linV (.slice a m c) ((k1 + k2 + k3) % 4294967296)) ∧ m = (addT (addT xs ys) zs).length ∧ w'.ownsRow W.heap.size 56 2 (.slice a m c) (addT (addT xs ys) zs).length (rowT (addT (addT xs ys) zs)) ∧ w'.cell? ⟨w.heap.size, 0, none⟩ = some (.slice a1 m1 c1) ∧ w'.cell? ⟨w.heap.size, 1, none⟩ = some (.int .u32 k1) ∧ w'.cell? ⟨g2, 0, none⟩ = some (.slice a2 m2 c2) ∧ w'.cell? ⟨g2, 1, none⟩ = some (.int .u32 k2) ∧ w'.cell? ⟨g3, 0, none⟩ = some (.slice a3 m3 c3) ∧ w'.cell? ⟨g3, 1, none⟩ = some (.int .u32 k3)) :=
    fun W b1 d1 n1 hn hh hW => (add_held b1 a3 d1 c3 (addT xs ys) zs ((k1 + k2) % 4294967296) k3 n1 m3 W hn hM3.out hh hW.I.h3 hq1 (by omega)).mono fun e w' ⟨hb, a, c, m, he, hm, ho⟩ => by
      have B := hW.below hb
      rw [show ((k1 + k2) % 4294967296 + k3) % 4294967296 = (k1 + k2 + k3) % 4294967296 by omega] at he
      exact ⟨hb, a, c, m, he, hm, ho, B.q1.c0, B.q1.c1, B.q2.c0, B.q2.c1, B.q3.c0, B.q3.c1⟩
  go_cut [9] (fun v9 wy => ∃ g, v9 = .pointer (some ⟨g, 0, none⟩) ∧ Hid (LinAt wy g (addT (addT xs ys) zs) ((k1 + k2 + k3) % 4294967296)) ∧ Hid (Below wx.heap.size wx wy))
  case first =>
    go_region_held3 (fun w' => w'.cell? ⟨w.heap.size, 0, none⟩ = some (.slice a1 m1 c1) ∧ w'.cell? ⟨w.heap.size, 1, none⟩ = some (.int .u32 k1) ∧ w'.cell? ⟨g2, 0, none⟩ = some (.slice a2 m2 c2) ∧ w'.cell? ⟨g2, 1, none⟩ = some (.int .u32 k2) ∧ w'.cell? ⟨g3, 0, none⟩ = some (.slice a3 m3 c3) ∧ w'.cell? ⟨g3, 1, none⟩ = some (.int .u32 k3)) (go_keep)
      ((first
        | (go_at_call 24; (with_reducible refine (hA1.out _ hBx.out.drew).mono ?_); rintro e wd ⟨hbd, b1, d1, n1, rfl, hn1, ho1, s0, s1, s2, s3, s4, s5⟩; have hc1 := Hid.intro (chain' (Below.refl _ wx).drew hbd); obtain ⟨nd1, nd2, nd3, nd4, nd5, nd6⟩ := six_ne (hBx.out.below hc1.out); replace hn1 := Hid.intro hn1; replace ho1 := Hid.intro ho1)
        | (go_at_call 24; (with_reducible refine (hA1.out _ (hBx.out.alloc _).drew).mono ?_); rintro e wd ⟨hbd, b1, d1, n1, rfl, hn1, ho1, s0, s1, s2, s3, s4, s5⟩; replace hbd := chain' (Below.refl _ (wx.alloc (.cells #[.slice none 0 0, .int .u32 0] 25))).drew hbd; have hc1 := Hid.intro (chain (Below.refl _ wx) hbd); obtain ⟨nd1, nd2, nd3, nd4, nd5, nd6⟩ := six_ne (hBx.out.below hc1.out); have T9 := Hid.intro (two_below hbd); replace hn1 := Hid.intro hn1; replace ho1 := Hid.intro ho1)
        | (go_at_call 24; (with_reducible refine (hA2.out _ b1 d1 n1 hn1.out (own_held ho1.out) (hBx.out.below hc1.out)).mono ?_); rintro e we ⟨hbe, b2, d2, n2, rfl, hn2, ho2, r0, r1, r2, r3, r4, r5⟩; have hc2 := Hid.intro (chain' hc1.out hbe); obtain ⟨ne1, ne2, ne3, ne4, ne5, ne6⟩ := six_ne (hBx.out.below hc2.out); replace hn2 := Hid.intro hn2; replace ho2 := Hid.intro ho2; try (have T9e := Hid.intro (T9.out.below hbe T9.out.lt); have hT9lt : wx.heap.size < wd.heap.size := T9.out.lt; obtain ⟨_, _, _, tf0, tf1⟩ := T9e.out))
        | (go_at_call 24; (with_reducible refine (hA2.out _ b1 d1 n1 hn1.out ((own_held ho1.out).below (below_alloc _ _) (Nat.le_refl _)) ((hBx.out.below hc1.out).alloc _)).mono ?_); rintro e we ⟨hbe, b2, d2, n2, rfl, hn2, ho2, r0, r1, r2, r3, r4, r5⟩; have hc2 := Hid.intro (chain hc1.out hbe); obtain ⟨ne1, ne2, ne3, ne4, ne5, ne6⟩ := six_ne (hBx.out.below hc2.out); replace hn2 := Hid.intro hn2; replace ho2 := Hid.intro ho2; have T9e := Hid.intro (two_below hbe); obtain ⟨_, _, _, tf0, tf1⟩ := T9e.out)))
    all_goals (go_wp2_with fail; go_meet)
    all_goals first
      | exact lin_late hc2.out hn2.out ho2.out
      | exact lin_set hc2.out T9e.out (Nat.le_refl _) hn2.out ho2.out hT9lt
      | exact lin_set hc2.out T9e.out hc1.out.size hn2.out ho2.out (by simp)
  case rest =>
    obtain ⟨g9, rfl, L9, hb4⟩ := hcut
    obtain ⟨wy, rfl⟩ : ∃ wy, wy = wc := ⟨_, rfl⟩
    have htowy : Hid (Below wx.heap.size wx wy) := hb4
    clear x0 x1 y0 y1 z0 z1 u0 u1 u2 u3 u4 u5 nx1 nx2 nx3 nx4 nx5 nx6 hA1 hA2
    obtain ⟨K31, hK31⟩ : ∃ K, K = (k3 + k1) % 4294967296 := ⟨_, rfl⟩
    replace hK31 := Hid.intro hK31
    obtain ⟨K10, hK10⟩ : ∃ K, K = (k2 + K31) % 4294967296 := ⟨_, rfl⟩
    replace hK10 := Hid.intro hK10
    have hC1 : Hid (∀ W, B3 W w.heap.size g2 g3 a1 a2 a3 m1 m2 m3 c1 c2 c3 xs ys zs k1 k2 k3 → Calls Tryd.prog 24 #[linV (.slice a3 m3 c3) k3, linV (.slice a1 m1 c1) k1] W fun e w' => Below W.heap.size W w' ∧ ∃ a c m, e = .returned (linV (.slice a m c) K31) ∧ m = (addT zs xs).length ∧ w'.ownsRow W.heap.size 56 2 (.slice a m c) (addT zs xs).length (rowT (addT zs xs)) ∧ w'.cell? ⟨w.heap.size, 0, none⟩ = some (.slice a1 m1 c1) ∧ w'.cell? ⟨w.heap.size, 1, none⟩ = some (.int .u32 k1) ∧ w'.cell? ⟨g2, 0, none⟩ = some (.slice a2 m2 c2) ∧ w'.cell? ⟨g2, 1, none⟩ = some (.int .u32 k2) ∧ w'.cell? ⟨g3, 0, none⟩ = some (.slice a3 m3 c3) ∧ w'.cell? ⟨g3, 1, none⟩ = some (.int .u32 k3)) :=
      fun W  hW => (add_held a3 a1 c3 c1 zs xs k3 k1 m3 m1 W hM3.out hM1.out hW.I.h3 hW.I.h1 (by omega) (by omega)).mono fun e w' ⟨hb, a, c, m, he, hm, ho⟩ => by
        have B := hW.below hb
        rw [← hK31.out] at he
        exact ⟨hb, a, c, m, he, hm, ho, B.q1.c0, B.q1.c1, B.q2.c0, B.q2.c1, B.q3.c0, B.q3.c1⟩
    have hC2 : Hid (∀ W b1 d1 n1, n1 = (addT zs xs).length → Held W b1 d1 (addT zs xs) → B3 W w.heap.size g2 g3 a1 a2 a3 m1 m2 m3 c1 c2 c3 xs ys zs k1 k2 k3 → Calls Tryd.prog 24 #[linV (.slice a2 m2 c2) k2, linV (.slice b1 n1 d1) K31] W fun e w' => Below W.heap.size W w' ∧ ∃ a c m, e = .returned (linV (.slice a m c) K10) ∧ m = (addT ys (addT zs xs)).length ∧ w'.ownsRow W.heap.size 56 2 (.slice a m c) (addT ys (addT zs xs)).length (rowT (addT ys (addT zs xs))) ∧ w'.cell? ⟨w.heap.size, 0, none⟩ = some (.slice a1 m1 c1) ∧ w'.cell? ⟨w.heap.size, 1, none⟩ = some (.int .u32 k1) ∧ w'.cell? ⟨g2, 0, none⟩ = some (.slice a2 m2 c2) ∧ w'.cell? ⟨g2, 1, none⟩ = some (.int .u32 k2) ∧ w'.cell? ⟨g3, 0, none⟩ = some (.slice a3 m3 c3) ∧ w'.cell? ⟨g3, 1, none⟩ = some (.int .u32 k3)) :=
      fun W b1 d1 n1 hn hh hW => (add_held a2 b1 c2 d1 ys (addT zs xs) k2 K31 m2 n1 W hM2.out hn hW.I.h2 hh (by omega) (add_few hl3 hl1)).mono fun e w' ⟨hb, a, c, m, he, hm, ho⟩ => by
        have B := hW.below hb
        rw [← hK10.out] at he
        exact ⟨hb, a, c, m, he, hm, ho, B.q1.c0, B.q1.c1, B.q2.c0, B.q2.c1, B.q3.c0, B.q3.c1⟩
    go_wp2_with fail
    have Bwy := Hid.intro (hBx.out.below htowy.out)
    obtain ⟨_, wyx0, wyx1, _, _⟩ := Bwy.out.q1
    obtain ⟨_, wyy0, wyy1, _, _⟩ := Bwy.out.q2
    obtain ⟨_, wyz0, wyz1, _, _⟩ := Bwy.out.q3
    have wyu0 := fun o => (Bwy.out.alloc o).q1.c0
    have wyu1 := fun o => (Bwy.out.alloc o).q1.c1
    have wyu2 := fun o => (Bwy.out.alloc o).q2.c0
    have wyu3 := fun o => (Bwy.out.alloc o).q2.c1
    have wyu4 := fun o => (Bwy.out.alloc o).q3.c0
    have wyu5 := fun o => (Bwy.out.alloc o).q3.c1
    obtain ⟨wyn1, wyn2, wyn3, wyn4, wyn5, wyn6⟩ := six_ne Bwy.out
    go_cut [10] (fun v wy' => ∃ g, v = .pointer (some ⟨g, 0, none⟩) ∧ Hid (LinAt wy' g (addT ys (addT zs xs)) K10) ∧ Hid (Below wy.heap.size wy wy'))
    case first =>
      go_region_held3 (fun w' => w'.cell? ⟨w.heap.size, 0, none⟩ = some (.slice a1 m1 c1) ∧ w'.cell? ⟨w.heap.size, 1, none⟩ = some (.int .u32 k1) ∧ w'.cell? ⟨g2, 0, none⟩ = some (.slice a2 m2 c2) ∧ w'.cell? ⟨g2, 1, none⟩ = some (.int .u32 k2) ∧ w'.cell? ⟨g3, 0, none⟩ = some (.slice a3 m3 c3) ∧ w'.cell? ⟨g3, 1, none⟩ = some (.int .u32 k3)) (go_keep)
        ((first
          | (go_at_call 24; (with_reducible refine (hC1.out _ Bwy.out.drew).mono ?_); rintro e wr1 ⟨hbr1, b1, d1, n1, rfl, hn1, ho1, s10, s11, s12, s13, s14, s15⟩; replace hbr1 := chain' (Below.refl _ wy).drew hbr1; have hc1 := Hid.intro hbr1; obtain ⟨nd11, nd12, nd13, nd14, nd15, nd16⟩ := six_ne (Bwy.out.below hc1.out); have hz1 := hbr1.size; (try (simp only [World.size_alloc] at hz1)); have hh1 := Hid.intro (own_held ho1); replace hn1 := Hid.intro hn1; replace ho1 := Hid.intro ho1)
          | (go_at_call 24; (with_reducible refine (hC1.out _ (Bwy.out.alloc _).drew).mono ?_); rintro e wr1 ⟨hbr1, b1, d1, n1, rfl, hn1, ho1, s10, s11, s12, s13, s14, s15⟩; replace hbr1 := chain' (Below.refl _ (wy.alloc (.cells #[.slice none 0 0, .int .u32 0] 25))).drew hbr1; have hc1 := Hid.intro (chain (Below.refl _ wy) hbr1); obtain ⟨nd11, nd12, nd13, nd14, nd15, nd16⟩ := six_ne (Bwy.out.below hc1.out); have T1 := Hid.intro (two_below hbr1); have hz1 := hbr1.size; (try (simp only [World.size_alloc] at hz1)); have hh1 := Hid.intro (own_held ho1); replace hn1 := Hid.intro hn1; replace ho1 := Hid.intro ho1)
          | (go_at_call 24; (with_reducible refine (hC2.out _ b1 d1 n1 hn1.out hh1.out (Bwy.out.below hc1.out)).mono ?_); rintro e wr2 ⟨hbr2, b2, d2, n2, rfl, hn2, ho2, s20, s21, s22, s23, s24, s25⟩; have hc2 := Hid.intro (chain' hc1.out hbr2); obtain ⟨nd21, nd22, nd23, nd24, nd25, nd26⟩ := six_ne (Bwy.out.below hc2.out); have hz2 := hbr2.size; (try (simp only [World.size_alloc] at hz2)); have hh2 := Hid.intro (own_held ho2); replace hn2 := Hid.intro hn2; replace ho2 := Hid.intro ho2; try (have T2 := Hid.intro (T1.out.below hbr2 T1.out.lt); obtain ⟨_, _, _, tf20, tf21⟩ := T2.out))
          | (go_at_call 24; (with_reducible refine (hC2.out _ b1 d1 n1 hn1.out (hh1.out.below (below_alloc _ _) (Nat.le_refl _)) ((Bwy.out.below hc1.out).alloc _)).mono ?_); rintro e wr2 ⟨hbr2, b2, d2, n2, rfl, hn2, ho2, s20, s21, s22, s23, s24, s25⟩; have hc2 := Hid.intro (chain hc1.out hbr2); obtain ⟨nd21, nd22, nd23, nd24, nd25, nd26⟩ := six_ne (Bwy.out.below hc2.out); have T2 := Hid.intro (two_below hbr2); have hTge := hc1.out.size; obtain ⟨_, _, _, tf20, tf21⟩ := T2.out; have hz2 := hbr2.size; (try (simp only [World.size_alloc] at hz2)); have hh2 := Hid.intro (own_held ho2); replace hn2 := Hid.intro hn2; replace ho2 := Hid.intro ho2)))
      all_goals (go_wp2_with fail; go_meet)
      all_goals first
        | exact lin_late hc2.out hn2.out ho2.out
        | exact lin_set hc2.out T2.out (by omega) hn2.out ho2.out (by omega)
        | exact lin_set hc2.out T2.out (by omega) hn2.out ho2.out (by simp)
        | exact lin_set hc2.out T2.out (by omega) hn2.out ho2.out (by simp; omega)
    case rest =>
      obtain ⟨g10, rfl, L10, hb5⟩ := hcut
      obtain ⟨wz, rfl⟩ : ∃ wz, wz = wc := ⟨_, rfl⟩
      have htowz : Hid (Below wx.heap.size wx wz) := chain' htowy.out hb5.out
      have L9z := Hid.intro (L9.out.below hb5.out)
      clear wyx0 wyx1 wyy0 wyy1 wyz0 wyz1 wyu0 wyu1 wyu2 wyu3 wyu4 wyu5 wyn1 wyn2 wyn3 wyn4 wyn5 wyn6 hC1 hC2
      obtain ⟨K1n, hK1n⟩ : ∃ K, K = k1 * n % 4294967296 := ⟨_, rfl⟩
      replace hK1n := Hid.intro hK1n
      obtain ⟨K2n, hK2n⟩ : ∃ K, K = k2 * n % 4294967296 := ⟨_, rfl⟩
      replace hK2n := Hid.intro hK2n
      obtain ⟨K11, hK11⟩ : ∃ K, K = (K1n + K2n) % 4294967296 := ⟨_, rfl⟩
      replace hK11 := Hid.intro hK11
      have hD1 : Hid (∀ W, B3 W w.heap.size g2 g3 a1 a2 a3 m1 m2 m3 c1 c2 c3 xs ys zs k1 k2 k3 → Calls Tryd.prog 26 #[linV (.slice a1 m1 c1) k1, .int .u32 n] W fun e w' => Below W.heap.size W w' ∧ ∃ a c m, e = .returned (linV (.slice a m c) K1n) ∧ m = (timesT xs n).length ∧ w'.ownsRow W.heap.size 56 2 (.slice a m c) (timesT xs n).length (rowT (timesT xs n)) ∧ w'.cell? ⟨w.heap.size, 0, none⟩ = some (.slice a1 m1 c1) ∧ w'.cell? ⟨w.heap.size, 1, none⟩ = some (.int .u32 k1) ∧ w'.cell? ⟨g2, 0, none⟩ = some (.slice a2 m2 c2) ∧ w'.cell? ⟨g2, 1, none⟩ = some (.int .u32 k2) ∧ w'.cell? ⟨g3, 0, none⟩ = some (.slice a3 m3 c3) ∧ w'.cell? ⟨g3, 1, none⟩ = some (.int .u32 k3)) :=
        fun W  hW => (times_held a1 c1 xs k1 n m1 W hM1.out hW.I.h1 (by omega)).mono fun e w' ⟨hb, a, c, m, he, hm, ho⟩ => by
          have B := hW.below hb
          rw [← hK1n.out] at he
          exact ⟨hb, a, c, m, he, hm, ho, B.q1.c0, B.q1.c1, B.q2.c0, B.q2.c1, B.q3.c0, B.q3.c1⟩
      have hD2 : Hid (∀ W, B3 W w.heap.size g2 g3 a1 a2 a3 m1 m2 m3 c1 c2 c3 xs ys zs k1 k2 k3 → Calls Tryd.prog 26 #[linV (.slice a2 m2 c2) k2, .int .u32 n] W fun e w' => Below W.heap.size W w' ∧ ∃ a c m, e = .returned (linV (.slice a m c) K2n) ∧ m = (timesT ys n).length ∧ w'.ownsRow W.heap.size 56 2 (.slice a m c) (timesT ys n).length (rowT (timesT ys n)) ∧ w'.cell? ⟨w.heap.size, 0, none⟩ = some (.slice a1 m1 c1) ∧ w'.cell? ⟨w.heap.size, 1, none⟩ = some (.int .u32 k1) ∧ w'.cell? ⟨g2, 0, none⟩ = some (.slice a2 m2 c2) ∧ w'.cell? ⟨g2, 1, none⟩ = some (.int .u32 k2) ∧ w'.cell? ⟨g3, 0, none⟩ = some (.slice a3 m3 c3) ∧ w'.cell? ⟨g3, 1, none⟩ = some (.int .u32 k3)) :=
        fun W  hW => (times_held a2 c2 ys k2 n m2 W hM2.out hW.I.h2 (by omega)).mono fun e w' ⟨hb, a, c, m, he, hm, ho⟩ => by
          have B := hW.below hb
          rw [← hK2n.out] at he
          exact ⟨hb, a, c, m, he, hm, ho, B.q1.c0, B.q1.c1, B.q2.c0, B.q2.c1, B.q3.c0, B.q3.c1⟩
      have hD3 : Hid (∀ W b1 d1 n1 b2 d2 n2, n1 = (timesT xs n).length → n2 = (timesT ys n).length → Held W b1 d1 (timesT xs n) → Held W b2 d2 (timesT ys n) → B3 W w.heap.size g2 g3 a1 a2 a3 m1 m2 m3 c1 c2 c3 xs ys zs k1 k2 k3 → Calls Tryd.prog 24 #[linV (.slice b1 n1 d1) K1n, linV (.slice b2 n2 d2) K2n] W fun e w' => Below W.heap.size W w' ∧ ∃ a c m, e = .returned (linV (.slice a m c) K11) ∧ m = (addT (timesT xs n) (timesT ys n)).length ∧ w'.ownsRow W.heap.size 56 2 (.slice a m c) (addT (timesT xs n) (timesT ys n)).length (rowT (addT (timesT xs n) (timesT ys n))) ∧ w'.cell? ⟨w.heap.size, 0, none⟩ = some (.slice a1 m1 c1) ∧ w'.cell? ⟨w.heap.size, 1, none⟩ = some (.int .u32 k1) ∧ w'.cell? ⟨g2, 0, none⟩ = some (.slice a2 m2 c2) ∧ w'.cell? ⟨g2, 1, none⟩ = some (.int .u32 k2) ∧ w'.cell? ⟨g3, 0, none⟩ = some (.slice a3 m3 c3) ∧ w'.cell? ⟨g3, 1, none⟩ = some (.int .u32 k3)) :=
        fun W b1 d1 n1 b2 d2 n2 hn hn' hh hh' hW => (add_held b1 b2 d1 d2 (timesT xs n) (timesT ys n) K1n K2n n1 n2 W hn hn' hh hh' (times_few hl1 n) (times_few hl2 n)).mono fun e w' ⟨hb, a, c, m, he, hm, ho⟩ => by
          have B := hW.below hb
          rw [← hK11.out] at he
          exact ⟨hb, a, c, m, he, hm, ho, B.q1.c0, B.q1.c1, B.q2.c0, B.q2.c1, B.q3.c0, B.q3.c1⟩
      go_wp2_with fail
      have Bwz := Hid.intro (hBx.out.below htowz.out)
      obtain ⟨_, wzx0, wzx1, _, _⟩ := Bwz.out.q1
      obtain ⟨_, wzy0, wzy1, _, _⟩ := Bwz.out.q2
      obtain ⟨_, wzz0, wzz1, _, _⟩ := Bwz.out.q3
      have wzu0 := fun o => (Bwz.out.alloc o).q1.c0
      have wzu1 := fun o => (Bwz.out.alloc o).q1.c1
      have wzu2 := fun o => (Bwz.out.alloc o).q2.c0
      have wzu3 := fun o => (Bwz.out.alloc o).q2.c1
      have wzu4 := fun o => (Bwz.out.alloc o).q3.c0
      have wzu5 := fun o => (Bwz.out.alloc o).q3.c1
      obtain ⟨wzn1, wzn2, wzn3, wzn4, wzn5, wzn6⟩ := six_ne Bwz.out
      go_cut [11] (fun v wy' => ∃ g, v = .pointer (some ⟨g, 0, none⟩) ∧ Hid (LinAt wy' g (addT (timesT xs n) (timesT ys n)) K11) ∧ Hid (Below wz.heap.size wz wy'))
      case first =>
        go_region_held3 (fun w' => w'.cell? ⟨w.heap.size, 0, none⟩ = some (.slice a1 m1 c1) ∧ w'.cell? ⟨w.heap.size, 1, none⟩ = some (.int .u32 k1) ∧ w'.cell? ⟨g2, 0, none⟩ = some (.slice a2 m2 c2) ∧ w'.cell? ⟨g2, 1, none⟩ = some (.int .u32 k2) ∧ w'.cell? ⟨g3, 0, none⟩ = some (.slice a3 m3 c3) ∧ w'.cell? ⟨g3, 1, none⟩ = some (.int .u32 k3)) (go_keep)
          ((first
            | (go_at_call 26; (with_reducible refine (hD1.out _ Bwz.out.drew).mono ?_); rintro e wr1 ⟨hbr1, b1, d1, n1, rfl, hn1, ho1, s10, s11, s12, s13, s14, s15⟩; replace hbr1 := chain' (Below.refl _ wz).drew hbr1; have hc1 := Hid.intro hbr1; obtain ⟨nd11, nd12, nd13, nd14, nd15, nd16⟩ := six_ne (Bwz.out.below hc1.out); have hz1 := hbr1.size; (try (simp only [World.size_alloc] at hz1)); have hh1 := Hid.intro (own_held ho1); replace hn1 := Hid.intro hn1; replace ho1 := Hid.intro ho1)
            | (go_at_call 26; (with_reducible refine (hD1.out _ (Bwz.out.alloc _).drew).mono ?_); rintro e wr1 ⟨hbr1, b1, d1, n1, rfl, hn1, ho1, s10, s11, s12, s13, s14, s15⟩; replace hbr1 := chain' (Below.refl _ (wz.alloc (.cells #[.slice none 0 0, .int .u32 0] 25))).drew hbr1; have hc1 := Hid.intro (chain (Below.refl _ wz) hbr1); obtain ⟨nd11, nd12, nd13, nd14, nd15, nd16⟩ := six_ne (Bwz.out.below hc1.out); have T1 := Hid.intro (two_below hbr1); have hz1 := hbr1.size; (try (simp only [World.size_alloc] at hz1)); have hh1 := Hid.intro (own_held ho1); replace hn1 := Hid.intro hn1; replace ho1 := Hid.intro ho1)
            | (go_at_call 26; (with_reducible refine (hD2.out _ (Bwz.out.below hc1.out)).mono ?_); rintro e wr2 ⟨hbr2, b2, d2, n2, rfl, hn2, ho2, s20, s21, s22, s23, s24, s25⟩; have hc2 := Hid.intro (chain' hc1.out hbr2); obtain ⟨nd21, nd22, nd23, nd24, nd25, nd26⟩ := six_ne (Bwz.out.below hc2.out); have hk1 := Hid.intro (hh1.out.below hbr2 (Nat.le_refl _)); have hz2 := hbr2.size; (try (simp only [World.size_alloc] at hz2)); have hh2 := Hid.intro (own_held ho2); replace hn2 := Hid.intro hn2; replace ho2 := Hid.intro ho2; try (have T2 := Hid.intro (T1.out.below hbr2 T1.out.lt); obtain ⟨_, _, _, tf20, tf21⟩ := T2.out))
            | (go_at_call 26; (with_reducible refine (hD2.out _ ((Bwz.out.below hc1.out).alloc _)).mono ?_); rintro e wr2 ⟨hbr2, b2, d2, n2, rfl, hn2, ho2, s20, s21, s22, s23, s24, s25⟩; have hc2 := Hid.intro (chain hc1.out hbr2); obtain ⟨nd21, nd22, nd23, nd24, nd25, nd26⟩ := six_ne (Bwz.out.below hc2.out); have T2 := Hid.intro (two_below hbr2); have hTge := hc1.out.size; obtain ⟨_, _, _, tf20, tf21⟩ := T2.out; have hk1 := Hid.intro ((hh1.out.below (below_alloc _ _) (Nat.le_refl _)).below hbr2 (Nat.le_refl _)); have hz2 := hbr2.size; (try (simp only [World.size_alloc] at hz2)); have hh2 := Hid.intro (own_held ho2); replace hn2 := Hid.intro hn2; replace ho2 := Hid.intro ho2)
            | (go_at_call 24; (with_reducible refine (hD3.out _ b1 d1 n1 b2 d2 n2 hn1.out hn2.out hk1.out hh2.out (Bwz.out.below hc2.out)).mono ?_); rintro e wr3 ⟨hbr3, b3, d3, n3, rfl, hn3, ho3, s30, s31, s32, s33, s34, s35⟩; have hc3 := Hid.intro (chain' hc2.out hbr3); obtain ⟨nd31, nd32, nd33, nd34, nd35, nd36⟩ := six_ne (Bwz.out.below hc3.out); have hz3 := hbr3.size; (try (simp only [World.size_alloc] at hz3)); have hh3 := Hid.intro (own_held ho3); replace hn3 := Hid.intro hn3; replace ho3 := Hid.intro ho3; try (have T3 := Hid.intro (T2.out.below hbr3 T2.out.lt); obtain ⟨_, _, _, tf30, tf31⟩ := T3.out))
            | (go_at_call 24; (with_reducible refine (hD3.out _ b1 d1 n1 b2 d2 n2 hn1.out hn2.out (hk1.out.below (below_alloc _ _) (Nat.le_refl _)) (hh2.out.below (below_alloc _ _) (Nat.le_refl _)) ((Bwz.out.below hc2.out).alloc _)).mono ?_); rintro e wr3 ⟨hbr3, b3, d3, n3, rfl, hn3, ho3, s30, s31, s32, s33, s34, s35⟩; have hc3 := Hid.intro (chain hc2.out hbr3); obtain ⟨nd31, nd32, nd33, nd34, nd35, nd36⟩ := six_ne (Bwz.out.below hc3.out); have T3 := Hid.intro (two_below hbr3); have hTge := hc2.out.size; obtain ⟨_, _, _, tf30, tf31⟩ := T3.out; have hz3 := hbr3.size; (try (simp only [World.size_alloc] at hz3)); have hh3 := Hid.intro (own_held ho3); replace hn3 := Hid.intro hn3; replace ho3 := Hid.intro ho3)))
        all_goals (go_wp2_with fail; go_meet)
        all_goals first
          | exact lin_late hc3.out hn3.out ho3.out
          | exact lin_set hc3.out T3.out (by omega) hn3.out ho3.out (by omega)
          | exact lin_set hc3.out T3.out (by omega) hn3.out ho3.out (by simp)
          | exact lin_set hc3.out T3.out (by omega) hn3.out ho3.out (by simp; omega)
      case rest =>
        obtain ⟨g11, rfl, L11, hb6⟩ := hcut
        obtain ⟨wq, rfl⟩ : ∃ wq, wq = wc := ⟨_, rfl⟩
        have htowq : Hid (Below wx.heap.size wx wq) := chain' htowz.out hb6.out
        clear wzx0 wzx1 wzy0 wzy1 wzz0 wzz1 wzu0 wzu1 wzu2 wzu3 wzu4 wzu5 wzn1 wzn2 wzn3 wzn4 wzn5 wzn6 hD1 hD2 hD3
        have Bwq := Hid.intro (hBx.out.below htowq.out)
        obtain ⟨b9, d9, t9, h9⟩ := L9z.out.below hb6.out
        obtain ⟨b10, d10, t10, h10⟩ := L10.out.below hb6.out
        obtain ⟨b11, d11, t11, h11⟩ := L11.out
        obtain ⟨n9, hn9⟩ : ∃ m, m = (addT (addT xs ys) zs).length := ⟨_, rfl⟩
        rw [← hn9] at t9
        replace hn9 := Hid.intro hn9
        obtain ⟨n10, hn10⟩ : ∃ m, m = (addT ys (addT zs xs)).length := ⟨_, rfl⟩
        rw [← hn10] at t10
        replace hn10 := Hid.intro hn10
        obtain ⟨n11, hn11⟩ : ∃ m, m = (addT (timesT xs n) (timesT ys n)).length := ⟨_, rfl⟩
        rw [← hn11] at t11
        replace hn11 := Hid.intro hn11
        obtain ⟨K9, hK9⟩ : ∃ K, K = (k1 + k2 + k3) % 4294967296 := ⟨_, rfl⟩
        rw [← hK9] at t9
        replace hK9 := Hid.intro hK9
        have hL : Hid (B3 wq g9 g10 g11 b9 b10 b11 n9 n10 n11 d9 d10 d11 (addT (addT xs ys) zs) (addT ys (addT zs xs)) (addT (timesT xs n) (timesT ys n)) K9 K10 K11) := ⟨t9, t10, t11, ⟨h9, h10, h11⟩, Bwq.out.P⟩
        clear t9 t10 t11 h9 h10 h11 L9 L9z L10 L11 hb4 hb5 hb6
        obtain ⟨K54, hK54⟩ : ∃ K, K = (k1 + k2) % 4294967296 := ⟨_, rfl⟩
        replace hK54 := Hid.intro hK54
        obtain ⟨K56, hK56⟩ : ∃ K, K = K54 * n % 4294967296 := ⟨_, rfl⟩
        replace hK56 := Hid.intro hK56
        obtain ⟨K62, hK62⟩ : ∃ K, K = k1 * 4294967295 % 4294967296 := ⟨_, rfl⟩
        replace hK62 := Hid.intro hK62
        obtain ⟨K63, hK63⟩ : ∃ K, K = (k1 + K62) % 4294967296 := ⟨_, rfl⟩
        replace hK63 := Hid.intro hK63
        have f9 := add_few3 hl1 hl2 hl3
        have f10 : (addT ys (addT zs xs)).length ≤ 9000000 := by rw [← add_turn]; exact f9
        have f11 := times_few2 hl1 hl2 n
        have E45 : Hid (∀ W, B3 W w.heap.size g2 g3 a1 a2 a3 m1 m2 m3 c1 c2 c3 xs ys zs k1 k2 k3 → B3 W g9 g10 g11 b9 b10 b11 n9 n10 n11 d9 d10 d11 (addT (addT xs ys) zs) (addT ys (addT zs xs)) (addT (timesT xs n) (timesT ys n)) K9 K10 K11 → Calls Tryd.prog 28 #[linV (.slice b9 n9 d9) K9, linV (.slice b10 n10 d10) K10] W fun e w' => Below W.heap.size W w' ∧ e = .returned (.bool true) ∧ w'.cell? ⟨w.heap.size, 0, none⟩ = some (.slice a1 m1 c1) ∧ w'.cell? ⟨w.heap.size, 1, none⟩ = some (.int .u32 k1) ∧ w'.cell? ⟨g2, 0, none⟩ = some (.slice a2 m2 c2) ∧ w'.cell? ⟨g2, 1, none⟩ = some (.int .u32 k2) ∧ w'.cell? ⟨g9, 0, none⟩ = some (.slice b9 n9 d9) ∧ w'.cell? ⟨g9, 1, none⟩ = some (.int .u32 K9) ∧ w'.cell? ⟨g10, 0, none⟩ = some (.slice b10 n10 d10) ∧ w'.cell? ⟨g10, 1, none⟩ = some (.int .u32 K10) ∧ w'.cell? ⟨g11, 0, none⟩ = some (.slice b11 n11 d11) ∧ w'.cell? ⟨g11, 1, none⟩ = some (.int .u32 K11)) :=
          fun W  hW hl => (same_held b9 b10 d9 d10 _ _ K9 K10 n9 n10 W hn9.out hn10.out hl.I.h1 hl.I.h2 f9 f10 (same_true (add_turn xs ys zs) (by rw [hK9.out, hK10.out, hK31.out]; omega))).mono fun e w' ⟨hb, he⟩ => by
            have B := hW.below hb
            have L := hl.below hb
            exact ⟨hb, he, B.q1.c0, B.q1.c1, B.q2.c0, B.q2.c1, L.q1.c0, L.q1.c1, L.q2.c0, L.q2.c1, L.q3.c0, L.q3.c1⟩
        have hr9 : rightF none (addT (addT xs ys) zs) = true := add_right (add_legal hG1.out hG2.out) hG3.out
        have hR9 := Hid.intro (fun W (h : Held W b9 d9 (addT (addT xs ys) zs)) => right_any b9 d9 (addT (addT xs ys) zs) K9 W h.lies f9 (add_short (add_short hN1.out hN2.out) hN3.out))
        rw [hr9, ← hn9.out] at hR9
        have E48 : Hid (∀ W, B3 W w.heap.size g2 g3 a1 a2 a3 m1 m2 m3 c1 c2 c3 xs ys zs k1 k2 k3 → B3 W g9 g10 g11 b9 b10 b11 n9 n10 n11 d9 d10 d11 (addT (addT xs ys) zs) (addT ys (addT zs xs)) (addT (timesT xs n) (timesT ys n)) K9 K10 K11 → Calls Tryd.prog 22 #[linV (.slice b9 n9 d9) K9] W fun e w' => Below W.heap.size W w' ∧ e = .returned (.bool true) ∧ w'.cell? ⟨w.heap.size, 0, none⟩ = some (.slice a1 m1 c1) ∧ w'.cell? ⟨w.heap.size, 1, none⟩ = some (.int .u32 k1) ∧ w'.cell? ⟨g2, 0, none⟩ = some (.slice a2 m2 c2) ∧ w'.cell? ⟨g2, 1, none⟩ = some (.int .u32 k2) ∧ w'.cell? ⟨g9, 0, none⟩ = some (.slice b9 n9 d9) ∧ w'.cell? ⟨g9, 1, none⟩ = some (.int .u32 K9) ∧ w'.cell? ⟨g10, 0, none⟩ = some (.slice b10 n10 d10) ∧ w'.cell? ⟨g10, 1, none⟩ = some (.int .u32 K10) ∧ w'.cell? ⟨g11, 0, none⟩ = some (.slice b11 n11 d11) ∧ w'.cell? ⟨g11, 1, none⟩ = some (.int .u32 K11)) :=
          fun W  hW hl => (hR9.out W hl.I.h1).mono fun e w' ⟨he, hb⟩ => by
            have B := hW.below hb
            have L := hl.below hb
            exact ⟨hb, he, B.q1.c0, B.q1.c1, B.q2.c0, B.q2.c1, L.q1.c0, L.q1.c1, L.q2.c0, L.q2.c1, L.q3.c0, L.q3.c1⟩
        have E54 : Hid (∀ W, B3 W w.heap.size g2 g3 a1 a2 a3 m1 m2 m3 c1 c2 c3 xs ys zs k1 k2 k3 → B3 W g9 g10 g11 b9 b10 b11 n9 n10 n11 d9 d10 d11 (addT (addT xs ys) zs) (addT ys (addT zs xs)) (addT (timesT xs n) (timesT ys n)) K9 K10 K11 → Calls Tryd.prog 24 #[linV (.slice a1 m1 c1) k1, linV (.slice a2 m2 c2) k2] W fun e w' => Below W.heap.size W w' ∧ ∃ a c m, e = .returned (linV (.slice a m c) K54) ∧ m = (addT xs ys).length ∧ Held w' a c (addT xs ys) ∧ w'.cell? ⟨w.heap.size, 0, none⟩ = some (.slice a1 m1 c1) ∧ w'.cell? ⟨w.heap.size, 1, none⟩ = some (.int .u32 k1) ∧ w'.cell? ⟨g2, 0, none⟩ = some (.slice a2 m2 c2) ∧ w'.cell? ⟨g2, 1, none⟩ = some (.int .u32 k2) ∧ w'.cell? ⟨g9, 0, none⟩ = some (.slice b9 n9 d9) ∧ w'.cell? ⟨g9, 1, none⟩ = some (.int .u32 K9) ∧ w'.cell? ⟨g10, 0, none⟩ = some (.slice b10 n10 d10) ∧ w'.cell? ⟨g10, 1, none⟩ = some (.int .u32 K10) ∧ w'.cell? ⟨g11, 0, none⟩ = some (.slice b11 n11 d11) ∧ w'.cell? ⟨g11, 1, none⟩ = some (.int .u32 K11)) :=
          fun W  hW hl => (add_held a1 a2 c1 c2 xs ys k1 k2 m1 m2 W hM1.out hM2.out hW.I.h1 hW.I.h2 (by omega) (by omega)).mono fun e w' ⟨hb, a, c, m, he, hm, ho⟩ => by
            have B := hW.below hb
            have L := hl.below hb
            rw [← hK54.out] at he
            exact ⟨hb, a, c, m, he, hm, own_held ho, B.q1.c0, B.q1.c1, B.q2.c0, B.q2.c1, L.q1.c0, L.q1.c1, L.q2.c0, L.q2.c1, L.q3.c0, L.q3.c1⟩
        have E56 : Hid (∀ W b d m, m = (addT xs ys).length → Held W b d (addT xs ys) → B3 W w.heap.size g2 g3 a1 a2 a3 m1 m2 m3 c1 c2 c3 xs ys zs k1 k2 k3 → B3 W g9 g10 g11 b9 b10 b11 n9 n10 n11 d9 d10 d11 (addT (addT xs ys) zs) (addT ys (addT zs xs)) (addT (timesT xs n) (timesT ys n)) K9 K10 K11 → Calls Tryd.prog 26 #[linV (.slice b m d) K54, .int .u32 n] W fun e w' => Below W.heap.size W w' ∧ ∃ a c m, e = .returned (linV (.slice a m c) K56) ∧ m = (timesT (addT xs ys) n).length ∧ Held w' a c (timesT (addT xs ys) n) ∧ w'.cell? ⟨w.heap.size, 0, none⟩ = some (.slice a1 m1 c1) ∧ w'.cell? ⟨w.heap.size, 1, none⟩ = some (.int .u32 k1) ∧ w'.cell? ⟨g2, 0, none⟩ = some (.slice a2 m2 c2) ∧ w'.cell? ⟨g2, 1, none⟩ = some (.int .u32 k2) ∧ w'.cell? ⟨g9, 0, none⟩ = some (.slice b9 n9 d9) ∧ w'.cell? ⟨g9, 1, none⟩ = some (.int .u32 K9) ∧ w'.cell? ⟨g10, 0, none⟩ = some (.slice b10 n10 d10) ∧ w'.cell? ⟨g10, 1, none⟩ = some (.int .u32 K10) ∧ w'.cell? ⟨g11, 0, none⟩ = some (.slice b11 n11 d11) ∧ w'.cell? ⟨g11, 1, none⟩ = some (.int .u32 K11)) :=
          fun W b d m hm hh hW hl => (times_held b d (addT xs ys) K54 n m W hm hh hq1).mono fun e w' ⟨hb, a, c, m, he, hm, ho⟩ => by
            have B := hW.below hb
            have L := hl.below hb
            rw [← hK56.out] at he
            exact ⟨hb, a, c, m, he, hm, own_held ho, B.q1.c0, B.q1.c1, B.q2.c0, B.q2.c1, L.q1.c0, L.q1.c1, L.q2.c0, L.q2.c1, L.q3.c0, L.q3.c1⟩
        have E57 : Hid (∀ W b d m, m = (timesT (addT xs ys) n).length → Held W b d (timesT (addT xs ys) n) → B3 W w.heap.size g2 g3 a1 a2 a3 m1 m2 m3 c1 c2 c3 xs ys zs k1 k2 k3 → B3 W g9 g10 g11 b9 b10 b11 n9 n10 n11 d9 d10 d11 (addT (addT xs ys) zs) (addT ys (addT zs xs)) (addT (timesT xs n) (timesT ys n)) K9 K10 K11 → Calls Tryd.prog 28 #[linV (.slice b11 n11 d11) K11, linV (.slice b m d) K56] W fun e w' => Below W.heap.size W w' ∧ e = .returned (.bool true) ∧ w'.cell? ⟨w.heap.size, 0, none⟩ = some (.slice a1 m1 c1) ∧ w'.cell? ⟨w.heap.size, 1, none⟩ = some (.int .u32 k1) ∧ w'.cell? ⟨g2, 0, none⟩ = some (.slice a2 m2 c2) ∧ w'.cell? ⟨g2, 1, none⟩ = some (.int .u32 k2) ∧ w'.cell? ⟨g9, 0, none⟩ = some (.slice b9 n9 d9) ∧ w'.cell? ⟨g9, 1, none⟩ = some (.int .u32 K9) ∧ w'.cell? ⟨g10, 0, none⟩ = some (.slice b10 n10 d10) ∧ w'.cell? ⟨g10, 1, none⟩ = some (.int .u32 K10) ∧ w'.cell? ⟨g11, 0, none⟩ = some (.slice b11 n11 d11) ∧ w'.cell? ⟨g11, 1, none⟩ = some (.int .u32 K11)) :=
          fun W b d m hm hh hW hl => (same_held b11 b d11 d _ _ K11 K56 n11 m W hn11.out hm hl.I.h3 hh f11 (by rw [← times_add]; exact f11) (same_true (times_add xs ys n) (by rw [hK11.out, hK56.out, hK54.out, hK1n.out, hK2n.out]; exact k_times k1 k2 n))).mono fun e w' ⟨hb, he⟩ => by
            have B := hW.below hb
            have L := hl.below hb
            exact ⟨hb, he, B.q1.c0, B.q1.c1, B.q2.c0, B.q2.c1, L.q1.c0, L.q1.c1, L.q2.c0, L.q2.c1, L.q3.c0, L.q3.c1⟩
        have E62 : Hid (∀ W, B3 W w.heap.size g2 g3 a1 a2 a3 m1 m2 m3 c1 c2 c3 xs ys zs k1 k2 k3 → B3 W g9 g10 g11 b9 b10 b11 n9 n10 n11 d9 d10 d11 (addT (addT xs ys) zs) (addT ys (addT zs xs)) (addT (timesT xs n) (timesT ys n)) K9 K10 K11 → Calls Tryd.prog 26 #[linV (.slice a1 m1 c1) k1, .int .u32 4294967295] W fun e w' => Below W.heap.size W w' ∧ ∃ a c m, e = .returned (linV (.slice a m c) K62) ∧ m = (timesT xs 4294967295).length ∧ Held w' a c (timesT xs 4294967295) ∧ w'.cell? ⟨w.heap.size, 0, none⟩ = some (.slice a1 m1 c1) ∧ w'.cell? ⟨w.heap.size, 1, none⟩ = some (.int .u32 k1) ∧ w'.cell? ⟨g2, 0, none⟩ = some (.slice a2 m2 c2) ∧ w'.cell? ⟨g2, 1, none⟩ = some (.int .u32 k2) ∧ w'.cell? ⟨g9, 0, none⟩ = some (.slice b9 n9 d9) ∧ w'.cell? ⟨g9, 1, none⟩ = some (.int .u32 K9) ∧ w'.cell? ⟨g10, 0, none⟩ = some (.slice b10 n10 d10) ∧ w'.cell? ⟨g10, 1, none⟩ = some (.int .u32 K10) ∧ w'.cell? ⟨g11, 0, none⟩ = some (.slice b11 n11 d11) ∧ w'.cell? ⟨g11, 1, none⟩ = some (.int .u32 K11)) :=
          fun W  hW hl => (times_held a1 c1 xs k1 4294967295 m1 W hM1.out hW.I.h1 (by omega)).mono fun e w' ⟨hb, a, c, m, he, hm, ho⟩ => by
            have B := hW.below hb
            have L := hl.below hb
            rw [← hK62.out] at he
            exact ⟨hb, a, c, m, he, hm, own_held ho, B.q1.c0, B.q1.c1, B.q2.c0, B.q2.c1, L.q1.c0, L.q1.c1, L.q2.c0, L.q2.c1, L.q3.c0, L.q3.c1⟩
        have E63 : Hid (∀ W b d m, m = (timesT xs 4294967295).length → Held W b d (timesT xs 4294967295) → B3 W w.heap.size g2 g3 a1 a2 a3 m1 m2 m3 c1 c2 c3 xs ys zs k1 k2 k3 → B3 W g9 g10 g11 b9 b10 b11 n9 n10 n11 d9 d10 d11 (addT (addT xs ys) zs) (addT ys (addT zs xs)) (addT (timesT xs n) (timesT ys n)) K9 K10 K11 → Calls Tryd.prog 24 #[linV (.slice a1 m1 c1) k1, linV (.slice b m d) K62] W fun e w' => Below W.heap.size W w' ∧ ∃ a c m, e = .returned (linV (.slice a m c) K63) ∧ m = (addT xs (timesT xs 4294967295)).length ∧ Held w' a c (addT xs (timesT xs 4294967295)) ∧ w'.cell? ⟨w.heap.size, 0, none⟩ = some (.slice a1 m1 c1) ∧ w'.cell? ⟨w.heap.size, 1, none⟩ = some (.int .u32 k1) ∧ w'.cell? ⟨g2, 0, none⟩ = some (.slice a2 m2 c2) ∧ w'.cell? ⟨g2, 1, none⟩ = some (.int .u32 k2) ∧ w'.cell? ⟨g9, 0, none⟩ = some (.slice b9 n9 d9) ∧ w'.cell? ⟨g9, 1, none⟩ = some (.int .u32 K9) ∧ w'.cell? ⟨g10, 0, none⟩ = some (.slice b10 n10 d10) ∧ w'.cell? ⟨g10, 1, none⟩ = some (.int .u32 K10) ∧ w'.cell? ⟨g11, 0, none⟩ = some (.slice b11 n11 d11) ∧ w'.cell? ⟨g11, 1, none⟩ = some (.int .u32 K11)) :=
          fun W b d m hm hh hW hl => (add_held a1 b c1 d xs (timesT xs 4294967295) k1 K62 m1 m W hM1.out hm hW.I.h1 hh (by omega) (times_few hl1 _)).mono fun e w' ⟨hb, a, c, m, he, hm, ho⟩ => by
            have B := hW.below hb
            have L := hl.below hb
            rw [← hK63.out] at he
            exact ⟨hb, a, c, m, he, hm, own_held ho, B.q1.c0, B.q1.c1, B.q2.c0, B.q2.c1, L.q1.c0, L.q1.c1, L.q2.c0, L.q2.c1, L.q3.c0, L.q3.c1⟩
        have E64 : Hid (∀ W, B3 W w.heap.size g2 g3 a1 a2 a3 m1 m2 m3 c1 c2 c3 xs ys zs k1 k2 k3 → B3 W g9 g10 g11 b9 b10 b11 n9 n10 n11 d9 d10 d11 (addT (addT xs ys) zs) (addT ys (addT zs xs)) (addT (timesT xs n) (timesT ys n)) K9 K10 K11 → Calls Tryd.prog 13 #[.int .u32 0] W fun e w' => Below W.heap.size W w' ∧ e = .returned (linV (.slice none 0 0) 0) ∧ w'.cell? ⟨w.heap.size, 0, none⟩ = some (.slice a1 m1 c1) ∧ w'.cell? ⟨w.heap.size, 1, none⟩ = some (.int .u32 k1) ∧ w'.cell? ⟨g2, 0, none⟩ = some (.slice a2 m2 c2) ∧ w'.cell? ⟨g2, 1, none⟩ = some (.int .u32 k2) ∧ w'.cell? ⟨g9, 0, none⟩ = some (.slice b9 n9 d9) ∧ w'.cell? ⟨g9, 1, none⟩ = some (.int .u32 K9) ∧ w'.cell? ⟨g10, 0, none⟩ = some (.slice b10 n10 d10) ∧ w'.cell? ⟨g10, 1, none⟩ = some (.int .u32 K10) ∧ w'.cell? ⟨g11, 0, none⟩ = some (.slice b11 n11 d11) ∧ w'.cell? ⟨g11, 1, none⟩ = some (.int .u32 K11)) :=
          fun W  hW hl => (of_any 0 W).mono fun e w' ⟨he, hb⟩ => by
            have B := hW.below hb
            have L := hl.below hb
            exact ⟨hb, he, B.q1.c0, B.q1.c1, B.q2.c0, B.q2.c1, L.q1.c0, L.q1.c1, L.q2.c0, L.q2.c1, L.q3.c0, L.q3.c1⟩
        have E65 : Hid (∀ W b d m, m = (addT xs (timesT xs 4294967295)).length → Held W b d (addT xs (timesT xs 4294967295)) → B3 W w.heap.size g2 g3 a1 a2 a3 m1 m2 m3 c1 c2 c3 xs ys zs k1 k2 k3 → B3 W g9 g10 g11 b9 b10 b11 n9 n10 n11 d9 d10 d11 (addT (addT xs ys) zs) (addT ys (addT zs xs)) (addT (timesT xs n) (timesT ys n)) K9 K10 K11 → Calls Tryd.prog 28 #[linV (.slice b m d) K63, linV (.slice none 0 0) 0] W fun e w' => Below W.heap.size W w' ∧ e = .returned (.bool true) ∧ w'.cell? ⟨w.heap.size, 0, none⟩ = some (.slice a1 m1 c1) ∧ w'.cell? ⟨w.heap.size, 1, none⟩ = some (.int .u32 k1) ∧ w'.cell? ⟨g2, 0, none⟩ = some (.slice a2 m2 c2) ∧ w'.cell? ⟨g2, 1, none⟩ = some (.int .u32 k2) ∧ w'.cell? ⟨g9, 0, none⟩ = some (.slice b9 n9 d9) ∧ w'.cell? ⟨g9, 1, none⟩ = some (.int .u32 K9) ∧ w'.cell? ⟨g10, 0, none⟩ = some (.slice b10 n10 d10) ∧ w'.cell? ⟨g10, 1, none⟩ = some (.int .u32 K10) ∧ w'.cell? ⟨g11, 0, none⟩ = some (.slice b11 n11 d11) ∧ w'.cell? ⟨g11, 1, none⟩ = some (.int .u32 K11)) :=
          fun W b d m hm hh hW hl => (same_held b none d 0 _ [] K63 0 m 0 W hm rfl hh ⟨.inl rfl, fun _ => ⟨rfl, rfl⟩⟩ (by rw [add_minus]; simp) (by simp) (same_true (add_minus xs) (by rw [hK63.out, hK62.out]; exact k_minus k1))).mono fun e w' ⟨hb, he⟩ => by
            have B := hW.below hb
            have L := hl.below hb
            exact ⟨hb, he, B.q1.c0, B.q1.c1, B.q2.c0, B.q2.c1, L.q1.c0, L.q1.c1, L.q2.c0, L.q2.c1, L.q3.c0, L.q3.c1⟩
        have E68 : Hid (∀ W, B3 W w.heap.size g2 g3 a1 a2 a3 m1 m2 m3 c1 c2 c3 xs ys zs k1 k2 k3 → B3 W g9 g10 g11 b9 b10 b11 n9 n10 n11 d9 d10 d11 (addT (addT xs ys) zs) (addT ys (addT zs xs)) (addT (timesT xs n) (timesT ys n)) K9 K10 K11 → Calls Tryd.prog 14 #[] W fun e w' => Below W.heap.size W w' ∧ e = .returned (.bool true) ∧ w'.cell? ⟨w.heap.size, 0, none⟩ = some (.slice a1 m1 c1) ∧ w'.cell? ⟨w.heap.size, 1, none⟩ = some (.int .u32 k1) ∧ w'.cell? ⟨g2, 0, none⟩ = some (.slice a2 m2 c2) ∧ w'.cell? ⟨g2, 1, none⟩ = some (.int .u32 k2) ∧ w'.cell? ⟨g9, 0, none⟩ = some (.slice b9 n9 d9) ∧ w'.cell? ⟨g9, 1, none⟩ = some (.int .u32 K9) ∧ w'.cell? ⟨g10, 0, none⟩ = some (.slice b10 n10 d10) ∧ w'.cell? ⟨g10, 1, none⟩ = some (.int .u32 K10) ∧ w'.cell? ⟨g11, 0, none⟩ = some (.slice b11 n11 d11) ∧ w'.cell? ⟨g11, 1, none⟩ = some (.int .u32 K11)) :=
          fun W  hW hl => (known_any W hW.P).mono fun e w' ⟨hb, he⟩ => by
            have B := hW.below hb
            have L := hl.below hb
            exact ⟨hb, he, B.q1.c0, B.q1.c1, B.q2.c0, B.q2.c1, L.q1.c0, L.q1.c1, L.q2.c0, L.q2.c1, L.q3.c0, L.q3.c1⟩
        go_wp2_with fail
        obtain ⟨_, vx0, vx1, _, _⟩ := Bwq.out.q1
        obtain ⟨_, vy0, vy1, _, _⟩ := Bwq.out.q2
        obtain ⟨_, v9a, v9b, _, _⟩ := hL.out.q1
        obtain ⟨_, v10a, v10b, _, _⟩ := hL.out.q2
        obtain ⟨_, v11a, v11b, _, _⟩ := hL.out.q3
        go_region_held3 (fun w' => w'.cell? ⟨w.heap.size, 0, none⟩ = some (.slice a1 m1 c1) ∧ w'.cell? ⟨w.heap.size, 1, none⟩ = some (.int .u32 k1) ∧ w'.cell? ⟨g2, 0, none⟩ = some (.slice a2 m2 c2) ∧ w'.cell? ⟨g2, 1, none⟩ = some (.int .u32 k2) ∧ w'.cell? ⟨g9, 0, none⟩ = some (.slice b9 n9 d9) ∧ w'.cell? ⟨g9, 1, none⟩ = some (.int .u32 K9) ∧ w'.cell? ⟨g10, 0, none⟩ = some (.slice b10 n10 d10) ∧ w'.cell? ⟨g10, 1, none⟩ = some (.int .u32 K10) ∧ w'.cell? ⟨g11, 0, none⟩ = some (.slice b11 n11 d11) ∧ w'.cell? ⟨g11, 1, none⟩ = some (.int .u32 K11)) (go_keep)
          ((first
            | (go_at_call 28; (with_reducible refine (E45.out _ Bwq.out.drew hL.out.drew).mono ?_); rintro e wr1 ⟨hbr1, rfl, r1a, r1b, r1c, r1d, r1e, r1f, r1g, r1h, r1i, r1j⟩; replace hbr1 := chain' (Below.refl _ wq).drew hbr1; have hc1 := Hid.intro hbr1)
            | (go_at_call 22; (with_reducible refine (E48.out _ (Bwq.out.below hc1.out) (hL.out.below hc1.out)).mono ?_); rintro e wr2 ⟨hbr2, rfl, r2a, r2b, r2c, r2d, r2e, r2f, r2g, r2h, r2i, r2j⟩; have hc2 := Hid.intro (chain' hc1.out hbr2))
            | (go_at_call 24; (with_reducible refine (E54.out _ (Bwq.out.below hc2.out) (hL.out.below hc2.out)).mono ?_); rintro e wr3 ⟨hbr3, b3x, d3x, m3x, rfl, hm3x, hh3x, r3a, r3b, r3c, r3d, r3e, r3f, r3g, r3h, r3i, r3j⟩; have hc3 := Hid.intro (chain' hc2.out hbr3); replace hm3x := Hid.intro hm3x; replace hh3x := Hid.intro hh3x)
            | (go_at_call 26; (with_reducible refine (E56.out _ b3x d3x m3x hm3x.out hh3x.out (Bwq.out.below hc3.out) (hL.out.below hc3.out)).mono ?_); rintro e wr4 ⟨hbr4, b4x, d4x, m4x, rfl, hm4x, hh4x, r4a, r4b, r4c, r4d, r4e, r4f, r4g, r4h, r4i, r4j⟩; have hc4 := Hid.intro (chain' hc3.out hbr4); replace hm4x := Hid.intro hm4x; replace hh4x := Hid.intro hh4x)
            | (go_at_call 28; (with_reducible refine (E57.out _ b4x d4x m4x hm4x.out hh4x.out (Bwq.out.below hc4.out) (hL.out.below hc4.out)).mono ?_); rintro e wr5 ⟨hbr5, rfl, r5a, r5b, r5c, r5d, r5e, r5f, r5g, r5h, r5i, r5j⟩; have hc5 := Hid.intro (chain' hc4.out hbr5))
            | (go_at_call 26; (with_reducible refine (E62.out _ (Bwq.out.below hc5.out) (hL.out.below hc5.out)).mono ?_); rintro e wr6 ⟨hbr6, b6x, d6x, m6x, rfl, hm6x, hh6x, r6a, r6b, r6c, r6d, r6e, r6f, r6g, r6h, r6i, r6j⟩; have hc6 := Hid.intro (chain' hc5.out hbr6); replace hm6x := Hid.intro hm6x; replace hh6x := Hid.intro hh6x)
            | (go_at_call 24; (with_reducible refine (E63.out _ b6x d6x m6x hm6x.out hh6x.out (Bwq.out.below hc6.out) (hL.out.below hc6.out)).mono ?_); rintro e wr7 ⟨hbr7, b7x, d7x, m7x, rfl, hm7x, hh7x, r7a, r7b, r7c, r7d, r7e, r7f, r7g, r7h, r7i, r7j⟩; have hc7 := Hid.intro (chain' hc6.out hbr7); replace hm7x := Hid.intro hm7x; replace hh7x := Hid.intro hh7x)
            | (go_at_call 13; (with_reducible refine (E64.out _ (Bwq.out.below hc7.out) (hL.out.below hc7.out)).mono ?_); rintro e wr8 ⟨hbr8, rfl, r8a, r8b, r8c, r8d, r8e, r8f, r8g, r8h, r8i, r8j⟩; have hc8 := Hid.intro (chain' hc7.out hbr8))
            | (go_at_call 28; (with_reducible refine (E65.out _ b7x d7x m7x hm7x.out (hh7x.out.below hbr8 (Nat.le_refl _)) (Bwq.out.below hc8.out) (hL.out.below hc8.out)).mono ?_); rintro e wr9 ⟨hbr9, rfl, r9a, r9b, r9c, r9d, r9e, r9f, r9g, r9h, r9i, r9j⟩; have hc9 := Hid.intro (chain' hc8.out hbr9))
            | (go_at_call 14; (with_reducible refine (E68.out _ (Bwq.out.below hc9.out) (hL.out.below hc9.out)).mono ?_); rintro e wr10 ⟨hbr10, rfl, r10a, r10b, r10c, r10d, r10e, r10f, r10g, r10h, r10i, r10j⟩; have hc10 := Hid.intro (chain' hc9.out hbr10))))
        all_goals go_wp2_with fail
        all_goals go_ret
        all_goals exact ⟨chain' (chain' hbwx.out htowq.out) hc10.out, rfl⟩
end Go.Proofs.YtijdjljnppkhmaaDoor
