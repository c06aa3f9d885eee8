/- cpu.do: small functions. -/
import Derived.Test.YtlchefdddgbohaaDoorDo0
import Derived.Deep.RegionHeld3
import Derived.Deep.RegionWith
import Derived.BigRegion
import Derived.WalkLawsBesides
import Derived.WalkSpells
import Derived.Test.YtlchefdddgbohaaDoorTrc
namespace Go.Proofs.YtlchefdddgbohaaDoor
open Go.ChangeShapes Go.WideShapes Go.ChangeAt Go.RowKit
set_option linter.unusedVariables false
set_option linter.unusedSimpArgs false
set_option maxRecDepth 100000

theorem trapped_any (n : Int) (w : World) : Calls Tryd.prog 32 #[.int .i64 n] w fun e w' => e = .returned (effV 6 n 0) ∧ Below w.heap.size w w' := by
  have he := heap_alloc_new w (.cells #[.int .i64 6, .int .i64 n, .int .u32 0] 40)
  have z0 := (Joins.cell_of_block he 0).trans rfl
  have z1 := (Joins.cell_of_block he 1).trans rfl
  have z2 := (Joins.cell_of_block he 2).trans rfl
  go_enter Tryd.func32, Tryd.ntmps32
  go_wp2
  refine bodyPost_ret (by simp [results, Tryd.results32, go_sem, z0, z1, z2]; try rfl) rfl ⟨rfl, below_alloc w _⟩
theorem branch_any (b : Bool) (w : World) : Calls Tryd.prog 54 #[.bool b] w fun e w' => e = .returned (effV (if b then 1 else 0) 0 0) ∧ Below w.heap.size w w' := by
  cases b
  · have he := heap_alloc_new w (.cells #[.int .i64 0, .int .i64 0, .int .u32 0] 40)
    have z0 := (Joins.cell_of_block he 0).trans rfl
    have z1 := (Joins.cell_of_block he 1).trans rfl
    have z2 := (Joins.cell_of_block he 2).trans rfl
    go_enter Tryd.func54, Tryd.ntmps54
    go_wp2
    refine bodyPost_ret (by simp [results, Tryd.results54, go_sem, z0, z1, z2]; try rfl) rfl ⟨rfl, below_alloc w _⟩
  · have he := heap_alloc_new w (.cells #[.int .i64 1, .int .i64 0, .int .u32 0] 40)
    have z0 := (Joins.cell_of_block he 0).trans rfl
    have z1 := (Joins.cell_of_block he 1).trans rfl
    have z2 := (Joins.cell_of_block he 2).trans rfl
    go_enter Tryd.func54, Tryd.ntmps54
    go_wp2
    refine bodyPost_ret (by simp [results, Tryd.results54, go_sem, z0, z1, z2]; try rfl) rfl ⟨rfl, below_alloc w _⟩
theorem number_any (b : Bool) (w : World) : Calls Tryd.prog 65 #[.bool b] w fun e w' => e = .returned (.int .i32 (if b then 1 else 0)) ∧ w' = w := by
  cases b
  all_goals
    go_enter Tryd.func65, Tryd.ntmps65
    go_wp2
    go_ret
    exact ⟨rfl, rfl⟩
/-- what A becomes -/
def reckN (op a b : Int) : Int :=
  if op = 9 then wrap32 (-a) else if op = 10 then bits .xor .i32 (-1) a else if op = 13 then b else if op = 14 then wrap32 (a + b) else if op = 15 then wrap32 (a - b) else if op = 16 then wrap32 (a * b)
  else if op = 18 then bits .and .i32 a b else if op = 19 then bits .or .i32 a b else if op = 20 then bits .xor .i32 a b else if op = 21 then wrap32 (a * 2 ^ (b % 32).toNat) else if op = 22 then wrap32 (a % 4294967296 / 2 ^ (b % 32).toNat)
  else if op = 23 then (if a < b then 1 else 0) else if op = 24 then (if a = b then 1 else 0) else 0
def isReck (op : Int) : Prop := op = 9 ∨ op = 10 ∨ op = 13 ∨ op = 14 ∨ op = 15 ∨ op = 16 ∨ op = 18 ∨ op = 19 ∨ op = 20 ∨ op = 21 ∨ op = 22 ∨ op = 23 ∨ op = 24
theorem idx9 (v0 v1 v2 v3 v4 v5 v6 v7 v8 v9 v10 v11 v12 v13 v14 v15 v16 v17 v18 v19 v20 v21 v22 v23 v24 : Value) (w : World) : (Instr.index 118 (.agg #[v0, v1, v2, v3, v4, v5, v6, v7, v8, v9, v10, v11, v12, v13, v14, v15, v16, v17, v18, v19, v20, v21, v22, v23, v24]) (.int .i64 9)).run Tryd.prog w = .ok v9 w := by kernel_rfl
theorem idx10 (v0 v1 v2 v3 v4 v5 v6 v7 v8 v9 v10 v11 v12 v13 v14 v15 v16 v17 v18 v19 v20 v21 v22 v23 v24 : Value) (w : World) : (Instr.index 118 (.agg #[v0, v1, v2, v3, v4, v5, v6, v7, v8, v9, v10, v11, v12, v13, v14, v15, v16, v17, v18, v19, v20, v21, v22, v23, v24]) (.int .i64 10)).run Tryd.prog w = .ok v10 w := by kernel_rfl
theorem idx13 (v0 v1 v2 v3 v4 v5 v6 v7 v8 v9 v10 v11 v12 v13 v14 v15 v16 v17 v18 v19 v20 v21 v22 v23 v24 : Value) (w : World) : (Instr.index 118 (.agg #[v0, v1, v2, v3, v4, v5, v6, v7, v8, v9, v10, v11, v12, v13, v14, v15, v16, v17, v18, v19, v20, v21, v22, v23, v24]) (.int .i64 13)).run Tryd.prog w = .ok v13 w := by kernel_rfl
theorem idx14 (v0 v1 v2 v3 v4 v5 v6 v7 v8 v9 v10 v11 v12 v13 v14 v15 v16 v17 v18 v19 v20 v21 v22 v23 v24 : Value) (w : World) : (Instr.index 118 (.agg #[v0, v1, v2, v3, v4, v5, v6, v7, v8, v9, v10, v11, v12, v13, v14, v15, v16, v17, v18, v19, v20, v21, v22, v23, v24]) (.int .i64 14)).run Tryd.prog w = .ok v14 w := by kernel_rfl
theorem idx15 (v0 v1 v2 v3 v4 v5 v6 v7 v8 v9 v10 v11 v12 v13 v14 v15 v16 v17 v18 v19 v20 v21 v22 v23 v24 : Value) (w : World) : (Instr.index 118 (.agg #[v0, v1, v2, v3, v4, v5, v6, v7, v8, v9, v10, v11, v12, v13, v14, v15, v16, v17, v18, v19, v20, v21, v22, v23, v24]) (.int .i64 15)).run Tryd.prog w = .ok v15 w := by kernel_rfl
theorem idx16 (v0 v1 v2 v3 v4 v5 v6 v7 v8 v9 v10 v11 v12 v13 v14 v15 v16 v17 v18 v19 v20 v21 v22 v23 v24 : Value) (w : World) : (Instr.index 118 (.agg #[v0, v1, v2, v3, v4, v5, v6, v7, v8, v9, v10, v11, v12, v13, v14, v15, v16, v17, v18, v19, v20, v21, v22, v23, v24]) (.int .i64 16)).run Tryd.prog w = .ok v16 w := by kernel_rfl
theorem idx18 (v0 v1 v2 v3 v4 v5 v6 v7 v8 v9 v10 v11 v12 v13 v14 v15 v16 v17 v18 v19 v20 v21 v22 v23 v24 : Value) (w : World) : (Instr.index 118 (.agg #[v0, v1, v2, v3, v4, v5, v6, v7, v8, v9, v10, v11, v12, v13, v14, v15, v16, v17, v18, v19, v20, v21, v22, v23, v24]) (.int .i64 18)).run Tryd.prog w = .ok v18 w := by kernel_rfl
theorem idx19 (v0 v1 v2 v3 v4 v5 v6 v7 v8 v9 v10 v11 v12 v13 v14 v15 v16 v17 v18 v19 v20 v21 v22 v23 v24 : Value) (w : World) : (Instr.index 118 (.agg #[v0, v1, v2, v3, v4, v5, v6, v7, v8, v9, v10, v11, v12, v13, v14, v15, v16, v17, v18, v19, v20, v21, v22, v23, v24]) (.int .i64 19)).run Tryd.prog w = .ok v19 w := by kernel_rfl
theorem idx20 (v0 v1 v2 v3 v4 v5 v6 v7 v8 v9 v10 v11 v12 v13 v14 v15 v16 v17 v18 v19 v20 v21 v22 v23 v24 : Value) (w : World) : (Instr.index 118 (.agg #[v0, v1, v2, v3, v4, v5, v6, v7, v8, v9, v10, v11, v12, v13, v14, v15, v16, v17, v18, v19, v20, v21, v22, v23, v24]) (.int .i64 20)).run Tryd.prog w = .ok v20 w := by kernel_rfl
theorem idx21 (v0 v1 v2 v3 v4 v5 v6 v7 v8 v9 v10 v11 v12 v13 v14 v15 v16 v17 v18 v19 v20 v21 v22 v23 v24 : Value) (w : World) : (Instr.index 118 (.agg #[v0, v1, v2, v3, v4, v5, v6, v7, v8, v9, v10, v11, v12, v13, v14, v15, v16, v17, v18, v19, v20, v21, v22, v23, v24]) (.int .i64 21)).run Tryd.prog w = .ok v21 w := by kernel_rfl
theorem idx22 (v0 v1 v2 v3 v4 v5 v6 v7 v8 v9 v10 v11 v12 v13 v14 v15 v16 v17 v18 v19 v20 v21 v22 v23 v24 : Value) (w : World) : (Instr.index 118 (.agg #[v0, v1, v2, v3, v4, v5, v6, v7, v8, v9, v10, v11, v12, v13, v14, v15, v16, v17, v18, v19, v20, v21, v22, v23, v24]) (.int .i64 22)).run Tryd.prog w = .ok v22 w := by kernel_rfl
theorem idx23 (v0 v1 v2 v3 v4 v5 v6 v7 v8 v9 v10 v11 v12 v13 v14 v15 v16 v17 v18 v19 v20 v21 v22 v23 v24 : Value) (w : World) : (Instr.index 118 (.agg #[v0, v1, v2, v3, v4, v5, v6, v7, v8, v9, v10, v11, v12, v13, v14, v15, v16, v17, v18, v19, v20, v21, v22, v23, v24]) (.int .i64 23)).run Tryd.prog w = .ok v23 w := by kernel_rfl
theorem idx24 (v0 v1 v2 v3 v4 v5 v6 v7 v8 v9 v10 v11 v12 v13 v14 v15 v16 v17 v18 v19 v20 v21 v22 v23 v24 : Value) (w : World) : (Instr.index 118 (.agg #[v0, v1, v2, v3, v4, v5, v6, v7, v8, v9, v10, v11, v12, v13, v14, v15, v16, v17, v18, v19, v20, v21, v22, v23, v24]) (.int .i64 24)).run Tryd.prog w = .ok v24 w := by kernel_rfl
set_option maxHeartbeats 2000000 in
theorem reck_any (op a b : Int) (h : isReck op) (w : World) : Calls Tryd.prog 49 #[.int .i64 op, .int .i32 a, .int .i32 b] w fun e w' => e = .returned (.int .i32 (reckN op a b)) ∧ w' = w := by
  rcases h with rfl | rfl | rfl | rfl | rfl | rfl | rfl | rfl | rfl | rfl | rfl | rfl | rfl
  · have hix := idx9
    go_enter Tryd.func49, Tryd.ntmps49
    go_wp2_with (go_at_call 65; (with_reducible refine (number_any _ _).mono ?_); rintro e w1 ⟨rfl, rfl⟩)
    all_goals go_ret
    all_goals refine ⟨?_, rfl⟩
    all_goals simp [reckN, *]
  · have hix := idx10
    go_enter Tryd.func49, Tryd.ntmps49
    go_wp2_with (go_at_call 65; (with_reducible refine (number_any _ _).mono ?_); rintro e w1 ⟨rfl, rfl⟩)
    all_goals go_ret
    all_goals refine ⟨?_, rfl⟩
    all_goals simp [reckN, *]
  · have hix := idx13
    go_enter Tryd.func49, Tryd.ntmps49
    go_wp2_with (go_at_call 65; (with_reducible refine (number_any _ _).mono ?_); rintro e w1 ⟨rfl, rfl⟩)
    all_goals go_ret
    all_goals refine ⟨?_, rfl⟩
    all_goals simp [reckN, *]
  · have hix := idx14
    go_enter Tryd.func49, Tryd.ntmps49
    go_wp2_with (go_at_call 65; (with_reducible refine (number_any _ _).mono ?_); rintro e w1 ⟨rfl, rfl⟩)
    all_goals go_ret
    all_goals refine ⟨?_, rfl⟩
    all_goals simp [reckN, *]
  · have hix := idx15
    go_enter Tryd.func49, Tryd.ntmps49
    go_wp2_with (go_at_call 65; (with_reducible refine (number_any _ _).mono ?_); rintro e w1 ⟨rfl, rfl⟩)
    all_goals go_ret
    all_goals refine ⟨?_, rfl⟩
    all_goals simp [reckN, *]
  · have hix := idx16
    go_enter Tryd.func49, Tryd.ntmps49
    go_wp2_with (go_at_call 65; (with_reducible refine (number_any _ _).mono ?_); rintro e w1 ⟨rfl, rfl⟩)
    all_goals go_ret
    all_goals refine ⟨?_, rfl⟩
    all_goals simp [reckN, *]
  · have hix := idx18
    go_enter Tryd.func49, Tryd.ntmps49
    go_wp2_with (go_at_call 65; (with_reducible refine (number_any _ _).mono ?_); rintro e w1 ⟨rfl, rfl⟩)
    all_goals go_ret
    all_goals refine ⟨?_, rfl⟩
    all_goals simp [reckN, *]
  · have hix := idx19
    go_enter Tryd.func49, Tryd.ntmps49
    go_wp2_with (go_at_call 65; (with_reducible refine (number_any _ _).mono ?_); rintro e w1 ⟨rfl, rfl⟩)
    all_goals go_ret
    all_goals refine ⟨?_, rfl⟩
    all_goals simp [reckN, *]
  · have hix := idx20
    go_enter Tryd.func49, Tryd.ntmps49
    go_wp2_with (go_at_call 65; (with_reducible refine (number_any _ _).mono ?_); rintro e w1 ⟨rfl, rfl⟩)
    all_goals go_ret
    all_goals refine ⟨?_, rfl⟩
    all_goals simp [reckN, *]
  · have hix := idx21
    go_enter Tryd.func49, Tryd.ntmps49
    go_wp2_with (go_at_call 65; (with_reducible refine (number_any _ _).mono ?_); rintro e w1 ⟨rfl, rfl⟩)
    all_goals go_ret
    all_goals refine ⟨?_, rfl⟩
    all_goals simp [reckN, *]
  · have hix := idx22
    go_enter Tryd.func49, Tryd.ntmps49
    go_wp2_with (go_at_call 65; (with_reducible refine (number_any _ _).mono ?_); rintro e w1 ⟨rfl, rfl⟩)
    all_goals go_ret
    all_goals refine ⟨?_, rfl⟩
    all_goals simp [reckN, *]
  · have hix := idx23
    go_enter Tryd.func49, Tryd.ntmps49
    go_wp2_with (go_at_call 65; (with_reducible refine (number_any _ _).mono ?_); rintro e w1 ⟨rfl, rfl⟩)
    all_goals go_ret
    all_goals refine ⟨?_, rfl⟩
    all_goals simp [reckN, *]
  · have hix := idx24
    go_enter Tryd.func49, Tryd.ntmps49
    go_wp2_with (go_at_call 65; (with_reducible refine (number_any _ _).mono ?_); rintro e w1 ⟨rfl, rfl⟩)
    all_goals go_ret
    all_goals refine ⟨?_, rfl⟩
    all_goals simp [reckN, *]

open PlainF
theorem run_mulF (a c : Nat) (w : World) : ∃ r w', (binOp .mul 103 (.float .f64 a) (.float .f64 c)).run Tryd.prog w = .ok (.float .f64 r) w' ∧ (w' = w ∨ w' = w.drew) ∧ Ans (Ieee.double.mul a c) r ∧ (Ieee.double.mul a c = none → r < 2 ^ 64) := by
  have e : (binOp .mul 103 (.float .f64 a) (.float .f64 c)).run Tryd.prog w = (Op.floatArith .mul .f64 a c).run Tryd.prog w := by kernel_rfl
  cases h : Ieee.double.mul a c with
  | some r =>
    have h' : FloatKind.f64.format.mul a c = some r := h
    exact ⟨r, w, by rw [e]; unfold Op.floatArith; simp [go_sem, h'], .inl rfl, rfl, fun h => by cases h⟩
  | none =>
    have h' : FloatKind.f64.format.mul a c = none := h
    refine ⟨_, w.drew, by rw [e]; unfold Op.floatArith; simp [go_sem, h']; rfl, .inr rfl, ?_, fun _ => ?_⟩
    · exact (nan_drawn _).1
    · exact (nan_drawn _).2
theorem run_addF (a c : Nat) (w : World) : ∃ r w', (binOp .add 103 (.float .f64 a) (.float .f64 c)).run Tryd.prog w = .ok (.float .f64 r) w' ∧ (w' = w ∨ w' = w.drew) ∧ Ans (Ieee.double.add a c) r ∧ (Ieee.double.add a c = none → r < 2 ^ 64) := by
  have e : (binOp .add 103 (.float .f64 a) (.float .f64 c)).run Tryd.prog w = (Op.floatArith .add .f64 a c).run Tryd.prog w := by kernel_rfl
  cases h : Ieee.double.add a c with
  | some r =>
    have h' : FloatKind.f64.format.add a c = some r := h
    exact ⟨r, w, by rw [e]; unfold Op.floatArith; simp [go_sem, h'], .inl rfl, rfl, fun h => by cases h⟩
  | none =>
    have h' : FloatKind.f64.format.add a c = none := h
    refine ⟨_, w.drew, by rw [e]; unfold Op.floatArith; simp [go_sem, h']; rfl, .inr rfl, ?_, fun _ => ?_⟩
    · exact (nan_drawn _).1
    · exact (nan_drawn _).2
theorem run_subF (a c : Nat) (w : World) : ∃ r w', (binOp .sub 103 (.float .f64 a) (.float .f64 c)).run Tryd.prog w = .ok (.float .f64 r) w' ∧ (w' = w ∨ w' = w.drew) ∧ Ans (Ieee.double.sub a c) r ∧ (Ieee.double.sub a c = none → r < 2 ^ 64) := by
  have e : (binOp .sub 103 (.float .f64 a) (.float .f64 c)).run Tryd.prog w = (Op.floatArith .sub .f64 a c).run Tryd.prog w := by kernel_rfl
  cases h : Ieee.double.sub a c with
  | some r =>
    have h' : FloatKind.f64.format.sub a c = some r := h
    exact ⟨r, w, by rw [e]; unfold Op.floatArith; simp [go_sem, h'], .inl rfl, rfl, fun h => by cases h⟩
  | none =>
    have h' : FloatKind.f64.format.sub a c = none := h
    refine ⟨_, w.drew, by rw [e]; unfold Op.floatArith; simp [go_sem, h']; rfl, .inr rfl, ?_, fun _ => ?_⟩
    · exact (nan_drawn _).1
    · exact (nan_drawn _).2
theorem drew_two {w w1 : World} (h : w1 = w ∨ w1 = w.drew) : Below w.heap.size w w1 := by
  rcases h with rfl | rfl
  · exact Below.refl _ _
  · exact (Below.refl _ _).drew
/-- the product of complex numbers, up to which NaN a part is -/
def ProdIs (a b c d x y : Nat) : Prop := ∃ p q r t, Ans (Ieee.double.mul a c) p ∧ Ans (Ieee.double.mul b d) q ∧ Ans (Ieee.double.sub p q) x ∧ Ans (Ieee.double.mul a d) r ∧ Ans (Ieee.double.mul b c) t ∧ Ans (Ieee.double.add r t) y
theorem product_any (a b c d : Nat) (w : World) : Calls Tryd.prog 55 #[.complex .f64 a b, .complex .f64 c d] w fun e w' => Below w.heap.size w w' ∧ ∃ x y, e = .returned (.complex .f64 x y) ∧ ProdIs a b c d x y := by
  obtain ⟨p, w1, h1, d1, a1, _⟩ := run_mulF a c w
  obtain ⟨q, w2, h2, d2, a2, _⟩ := run_mulF b d w1
  obtain ⟨x, w3, h3, d3, a3, _⟩ := run_subF p q w2
  obtain ⟨r, w4, h4, d4, a4, _⟩ := run_mulF a d w3
  obtain ⟨t, w5, h5, d5, a5, _⟩ := run_mulF b c w4
  obtain ⟨y, w6, h6, d6, a6, _⟩ := run_addF r t w5
  have b1 := drew_two d1
  have b2 := b1.trans ((drew_two d2).mono b1.size)
  have b3 := b2.trans ((drew_two d3).mono b2.size)
  have b4 := b3.trans ((drew_two d4).mono b3.size)
  have b5 := b4.trans ((drew_two d5).mono b4.size)
  have b6 := b5.trans ((drew_two d6).mono b5.size)
  have hP : ProdIs a b c d x y := ⟨p, q, r, t, a1, a2, a3, a4, a5, a6⟩
  clear d1 d2 d3 d4 d5 d6 b1 b2 b3 b4 b5 a1 a2 a3 a4 a5 a6
  go_enter Tryd.func55, Tryd.ntmps55
  go_wp2
  go_ret
  exact ⟨b6, x, y, rfl, hP⟩
end Go.Proofs.YtlchefdddgbohaaDoor
