/- encode's small functions: first, pair, width, registers. -/
import Derived.Test.YthboapfbgdcdoaaDoorLims
import Derived.Deep.RegionHeld3
import Derived.Test.YthboapfbgdcdoaaDoorOPut
import Derived.Deep.RegionWith
import Derived.BigRegion
namespace Go.Proofs.YthboapfbgdcdoaaDoor
open Go.ChangeShapes Go.WideShapes Go.ChangeAt Go.RowKit
set_option linter.unusedVariables false
set_option maxRecDepth 100000

theorem first_any (b f : Int) (w : World) (hb : 0 ≤ b ∧ b ≤ 73) (hf : 0 ≤ f ∧ f ≤ 4) :
    Calls Tryd.prog 31 #[.int .u8 b, .int .i64 f] w fun e w' => e = .returned (.int .u8 (b + f / 2)) ∧ w' = w := by
  have h1 : f.tdiv 2 = f / 2 := Int.tdiv_eq_ediv_of_nonneg hf.1
  have h2 : 0 ≤ f / 2 ∧ f / 2 ≤ 2 := by omega
  go_enter Tryd.func31, Tryd.ntmps31
  go_wp2
  go_ret
  exact ⟨congrArg (fun z => Ending.returned (Value.int .u8 z)) (by omega), rfl⟩

theorem pair_any (x y : Int) (w : World) (hx : 0 ≤ x ∧ x ≤ 7) (hy : 0 ≤ y ∧ y ≤ 7) :
    Calls Tryd.prog 47 #[.int .i64 x, .int .i64 y] w fun e w' => e = .returned (.int .u8 (16 * x + y)) ∧ w' = w := by
  go_enter Tryd.func47, Tryd.ntmps47
  go_wp2
  go_ret
  exact ⟨congrArg (fun z => Ending.returned (Value.int .u8 z)) (by omega), rfl⟩

/-- how many bytes tell the number -/
def widthN (s : Nat) (f : Int) : Int := if s = 8 ∨ s = 9 then 1 else if s = 11 then 2 else if s = 10 then 4 else f

theorem width_any (s : Nat) (hs : s < 14) (f : Int) (w : World) :
    Calls Tryd.prog 34 #[.int .i64 (s : Int), .int .i64 f] w fun e w' => e = .returned (.int .i64 (widthN s f)) ∧ w' = w := by
  rcases lim_cases s hs with rfl | rfl | rfl | rfl | rfl | rfl | rfl | rfl | rfl | rfl | rfl | rfl | rfl | rfl
  all_goals
    go_enter Tryd.func34, Tryd.ntmps34
    go_wp2
    go_ret
    exact ⟨rfl, rfl⟩

/-- the bytes that tell the registers -/
def regsL (a b n : Int) (s : Nat) : List Int :=
  if s = 2 ∨ s = 3 ∨ s = 8 ∨ s = 10 ∨ s = 11 ∨ s = 13 then [a] else if s = 4 ∨ s = 5 ∨ s = 6 then [16 * a + b] else if s = 7 then [a, 16 * b + n] else []

theorem own_new (w : World) (zs : List Int) (h : zs.length ≤ 100) : Own (w.alloc (.cells (cellsOf zs).toArray 5)) w.heap.size (.slice (some ⟨w.heap.size, 0, none⟩) zs.length zs.length) zs := by
  refine ⟨by simp [cellsOf_length], .inr ⟨w.heap.size, zs.length, (cellsOf zs).toArray, rfl, Nat.le_refl _, heap_alloc_new w _, Nat.le_refl _, by unfold maxLen; omega, by simp [cellsOf_length], ?_⟩⟩
  simp [cellsOf_length, List.take_of_length_le]

theorem Own.drew {w : World} {base : Nat} {v : Value} {zs : List Int} (h : Own w base v zs) : Own w.drew base v zs := h

theorem own_new2 (w : World) (o : Obj) (zs : List Int) (h : zs.length ≤ 100) : Own ((w.alloc o).alloc (.cells (cellsOf zs).toArray 5)) w.heap.size (.slice (some ⟨w.heap.size + 1, 0, none⟩) zs.length zs.length) zs := by
  have := (own_new (w.alloc o) zs h).mono (base' := w.heap.size) (by simp)
  simpa using this

set_option maxHeartbeats 1000000 in
theorem registersE_any (op a b n f : Int) (s : Nat) (hs : s < 14) (w : World) (hr : regB a b n s = true) :
    Calls Tryd.prog 32 #[instV op a b n f, .int .i64 (s : Int)] w fun e w' => ∃ v, e = .returned v ∧ Own w' w.heap.size v (regsL a b n s) ∧ Below w.heap.size w w' := by
  have hI := Hid.intro (inst_new w op a b n f)
  have hb0 := Hid.intro (below_alloc w (.cells #[.int .i64 op, .int .i64 a, .int .i64 b, .int .i32 n, .int .i64 f] 26))
  have hrH := Hid.intro hr
  clear hr
  rcases lim_cases s hs with rfl | rfl | rfl | rfl | rfl | rfl | rfl | rfl | rfl | rfl | rfl | rfl | rfl | rfl
  all_goals
    have hrr := hrH.out
    simp [regB, aMax0, aMax1, aMax2, aMax3, aMax4, aMax5, aMax6, aMax7, aMax8, aMax9, aMax10, aMax11, aMax12, aMax13, bMax0, bMax1, bMax2, bMax3, bMax4, bMax5, bMax6, bMax7, bMax8, bMax9, bMax10, bMax11, bMax12, bMax13, nMin7, nMax7] at hrr
  case inr.inr.inr.inr.inr.inr.inr.inl =>
    have ea : a % 256 = a := by omega
    obtain ⟨i0, i1, i2, i3, i4, _⟩ := hI.out
    have hp := Hid.intro (fun W => pair_any b n W (by omega) (by omega))
    have en : IntKind.i64.wrap n = n := by rw [IntKind.wrap_i64]; omega
    have eu : IntKind.u8.wrap a = a := by simp [IntKind.wrap, IntKind.bits, IntKind.signed]; omega
    have hbe := hb0
    go_enter Tryd.func32, Tryd.ntmps32
    go_wp2
    clear hI hb0
    generalize w.alloc (.cells #[.int .i64 op, .int .i64 a, .int .i64 b, .int .i32 n, .int .i64 f] 26) = w0 at *
    go_region_held3 (fun w' => w'.cell? ⟨w.heap.size, 1, none⟩ = some (.int .i64 a) ∧ w'.cell? ⟨w.heap.size, 2, none⟩ = some (.int .i64 b) ∧ w'.cell? ⟨w.heap.size, 3, none⟩ = some (.int .i32 n)) (go_keep) ((go_at_call 47; (with_reducible refine (hp.out _).mono ?_); rintro e w1 ⟨rfl, rfl⟩))
    all_goals go_wp2_with fail
    all_goals go_ret
    all_goals exact ⟨_, rfl, ((own_new w0 [a, 16 * b + n] (by simp)).mono hbe.out.size).drew, (hbe.out.alloc hbe.out.size _).drew⟩
  all_goals
    have ea : a % 256 = a := by omega
    go_enter Tryd.func32, Tryd.ntmps32
    go_wp2_with (go_at_call 47; refine (pair_any _ _ _ (by omega) (by omega)).mono ?_; rintro e w1 ⟨rfl, rfl⟩)
    go_ret
    first
      | exact ⟨_, rfl, own_new2 w _ [a] (by simp), (hb0.out.alloc hb0.out.size _)⟩
      | exact ⟨_, rfl, own_new2 w _ [16 * a + b] (by simp), (hb0.out.alloc hb0.out.size _)⟩
      | exact ⟨_, rfl, World.ownsRow_nil _ _ _ _, hb0.out⟩
end Go.Proofs.YthboapfbgdcdoaaDoor
