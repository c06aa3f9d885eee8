/- the law's sameErr, of two numbers. -/
import Derived.Test.YtogkchgjpflmjaaGreatDoorEr1
import Derived.WalkKit
import Derived.LaidEql
import Derived.Stop.Asserts
import Derived.RowKitTokens
import Derived.Test.YtogkchgjpflmjaaGreatDoorShelf
/- errors.Is at a refusal of unit's and a number; two errors held against each other; unit's at. -/
namespace Go.Proofs.YtogkchgjpflmjaaGreatDoor
open Go.RowKit Go.Extern.Stop Go.Stop Go.Extern
set_option linter.unusedVariables false
set_option maxRecDepth 100000
theorem methodComparable (v : Value) (w : World) : (Go.method 469 171 v "Comparable").run Tryz.prog w = .ok (219, v) w := by kernel_rfl
theorem comp36 : (Tryz.prog.info? 36).map (·.comparable) = some true := by kernel_rfl
theorem comparable36 (w : World) : ((ReflectliteType.method fun t => do Rtype.noPackHeld "Comparable" t; (fun a => Value.bool a.comparable) <$> typeInfo t) #[.agg #[.pointer (some ⟨7, 36, none⟩)]]).run Tryz.prog w = .ok (.bool true) w := by kernel_rfl
theorem noIsR (v : Value) (xT : TypeId) (w : World) : (Instr.typeAssert (.iface 51 v) xT 210 true).run Tryz.prog w = .ok (.tuple #[.nilIface, .bool false]) w := run_typeAssert_lacksB Tryz.underlying210 (by kernel_rfl) (by kernel_rfl) v xT w
theorem hasUnwrapR (v : Value) (xT : TypeId) (w : World) : (Instr.typeAssert (.iface 51 v) xT 178 true).run Tryz.prog w = .ok (.tuple #[.iface 51 v, .bool true]) w := run_typeAssert_hasB Tryz.underlying178 (by kernel_rfl) v xT w
theorem methodUnwrap (v : Value) (w : World) : (Go.method 469 51 v "Unwrap").run Tryz.prog w = .ok (48, v) w := by kernel_rfl
theorem eql_errno (m n : Int) (w : World) : (binOp .eql 28 (.iface 36 (.int .i64 m)) (.iface 36 (.int .i64 n))).run Tryz.prog w = .ok (.bool (m == n)) w := by
  obtain ⟨i, hi, hcmp⟩ := Option.map_eq_some_iff.1 comp36
  have h : ∀ d : Nat, (Op.equalIn (d + 2) 28 (.iface 36 (.int .i64 m)) (.iface 36 (.int .i64 n))).run Tryz.prog w = .ok (m == n) w := fun d => by
    simp [Op.equalIn, run_underlying Tryz.underlying28, run_underlying Tryz.underlying36, typeInfo, hi, hcmp]
  simp only [binOp]
  simp [Op.equal, Op.maxDepth, h 9998]
set_option maxHeartbeats 4000000 in
theorem unwrap_any (b : Nat) (n : Int) (w : World) (h1 : w.cell? ⟨b, 1, none⟩ = some (.int .i64 n)) :
    Calls Tryz.prog 48 #[.pointer (some ⟨b, 0, none⟩)] w fun e w' => e = .returned (.iface 36 (.int .i64 n)) ∧ w' = w := by
  go_enter Tryz.func48, Tryz.ntmps48
  go_wp2
  go_ret
  exact ⟨rfl, rfl⟩
set_option maxHeartbeats 4000000 in
theorem is_refusal (b : Nat) (n : Int) (w : World) (h1 : w.cell? ⟨b, 1, none⟩ = some (.int .i64 n)) :
    Calls Tryz.prog 49 #[.iface 51 (.pointer (some ⟨b, 0, none⟩)), .iface 36 (.int .i64 n)] w fun e w' => e = .returned (.bool true) ∧ w' = w := by
  have h8 := @run_callFunc_extern Tryz.prog 86 _ ReflectliteType.typeOf Tryz.func86 (by kernel_rfl) (by kernel_rfl) (by kernel_rfl) (by kernel_rfl)
  have h32 := @run_callFunc_extern Tryz.prog 219 _ (ReflectliteType.method fun t => do Rtype.noPackHeld "Comparable" t; pure (.bool (← typeInfo t).comparable)) Tryz.func219 (by kernel_rfl) (by kernel_rfl) (by kernel_rfl) (by kernel_rfl)
  have tT := typeOf36
  have cT := comparable36
  have mR := methodComparable
  have nW := noIsR
  have uW := hasUnwrapR
  have mU := methodUnwrap
  have heq : ∀ w, (binOp .eql 28 (.iface 36 (.int .i64 n)) (.iface 36 (.int .i64 n))).run Tryz.prog w = .ok (.bool true) w := fun w => by rw [eql_errno]; simp
  have hty := run_eql_iface_types (P := Tryz.prog) 51 36 (.pointer (some ⟨b, 0, none⟩)) (.int .i64 n) Tryz.underlying28 (by decide) w
  go_enter Tryz.func49, Tryz.ntmps49
  go_wp2
  refine wp_loop_rounds 2 ?_
  rw [rounds_succ]
  go_wp2
  rw [rounds_succ]
  go_wp2
  go_ret
  exact ⟨rfl, rfl⟩
end Go.Proofs.YtogkchgjpflmjaaGreatDoor
/- unit's at: the line laid beside the number. -/
namespace Go.Proofs.YtogkchgjpflmjaaGreatDoor
open Go.ChangeShapes Go.WideShapes Go.ChangeAt Go.RowKit
set_option linter.unusedVariables false
set_option maxRecDepth 100000
def ErrT (w : World) : Prop := w.cell? ⟨0, 0, none⟩ = some (.iface 171 (.agg #[.pointer (some ⟨7, 28, none⟩)]))
theorem ErrT.lt {w : World} (h : ErrT w) : 0 < w.heap.size := by
  rcases Nat.eq_zero_or_pos w.heap.size with h0 | h1
  · simp [ErrT, World.cell?, h0] at h
  · exact h1
theorem ErrT.below {w w' : World} {B : Nat} (h : ErrT w) (hb : Below B w w') (hB : 0 < B) : ErrT w' := (hb.cell (p := ⟨0, 0, none⟩) hB).trans h
set_option maxHeartbeats 4000000 in
theorem at_nil (n : Int) (w : World) : Calls Tryz.prog 34 #[.int .i64 n, .nilIface] w fun e w' => e = .returned .nilIface ∧ Below w.heap.size w w' := by
  have ha : Hid (∀ t w1, Calls Tryz.prog 25 #[.nilIface, t] w1 fun e w' => e = .returned (.bool false) ∧ w' = w1) := fun t w1 => as_nil t w1
  go_enter Tryz.func34, Tryz.ntmps34
  go_wp2_with (go_at_call 25; (with_reducible refine (ha.out _ _).mono ?_); rintro e w1 ⟨rfl, rfl⟩)
  go_ret
  exact ⟨rfl, below_alloc _ _⟩
theorem as_errno_new (k : Int) (w : World) (hg : ErrT w) :
    Calls Tryz.prog 25 #[.iface 36 (.int .i64 k), .iface 129 (.pointer (some ⟨w.heap.size, 0, none⟩))] (w.alloc (.cells #[.int .i64 0] 36)) fun e w' => e = .returned (.bool true) ∧ Below w.heap.size w w' ∧ w'.cell? ⟨w.heap.size, 0, none⟩ = some (.int .i64 k) := by
  have hlt := hg.lt
  have hc : (w.alloc (.cells #[.int .i64 0] 36)).cell? ⟨w.heap.size, 0, none⟩ = some (.int .i64 0) := by rw [World.cell?_alloc_at _ _ _ _ rfl]; rfl
  refine (as_errno k ⟨w.heap.size, 0, none⟩ (.int .i64 0) (w.alloc (.cells #[.int .i64 0] 36)) (by rw [World.cell?_alloc_lt _ _ ⟨0, 0, none⟩ hlt]; exact hg) hc (by unfold World.frozen?; rw [heap_alloc_new]; rfl)).mono ?_
  rintro e w' ⟨rfl, rfl⟩
  have hq := fun o1 o2 o3 o4 => show (((((w.alloc (.cells #[.int .i64 0] 36)).alloc o1).alloc o2).alloc o3).alloc o4).cell? ⟨w.heap.size, 0, none⟩ = some (.int .i64 0) from by
    rw [World.cell?_alloc_lt _ _ ⟨w.heap.size, 0, none⟩ (by simp; omega), World.cell?_alloc_lt _ _ ⟨w.heap.size, 0, none⟩ (by simp; omega), World.cell?_alloc_lt _ _ ⟨w.heap.size, 0, none⟩ (by simp; omega), World.cell?_alloc_lt _ _ ⟨w.heap.size, 0, none⟩ (by simp)]
    exact hc
  refine ⟨rfl, ?_, ?_⟩
  · exact ((((((below_alloc w _).alloc (by simp) _).alloc (by simp; omega) _).alloc (by simp; omega) _).alloc (by simp; omega) _).setCell (Nat.le_refl _) _)
  · exact World.cell?_setCell_same (h := hq _ _ _ _) ..
set_option maxHeartbeats 4000000 in
theorem at_errno (n k : Int) (w : World) (hg : ErrT w) : Calls Tryz.prog 34 #[.int .i64 n, .iface 36 (.int .i64 k)] w fun e w' => Below w.heap.size w w' ∧ ∃ b, w.heap.size ≤ b ∧ e = .returned (.iface 51 (.pointer (some ⟨b, 0, none⟩))) ∧ w'.heap[b]? = some (.cells #[.int .i64 n, .int .i64 k] 55 (0, 0)) := by
  have ha := Hid.intro (as_errno_new k w hg)
  go_enter Tryz.func34, Tryz.ntmps34
  go_wp2_with (go_at_call 25; (with_reducible refine (ha.out).mono ?_); rintro e w1 ⟨rfl, hb1, hc1⟩)
  go_ret
  exact ⟨hb1.alloc (by have := hb1.size; omega) _, w1.heap.size, hb1.size, rfl, heap_alloc_new _ _⟩
end Go.Proofs.YtogkchgjpflmjaaGreatDoor
namespace Go.Proofs.YtogkchgjpflmjaaGreatDoor
open Go.ChangeShapes Go.WideShapes Go.ChangeAt Go.RowKit
set_option linter.unusedVariables false
set_option maxRecDepth 100000
theorem nil_errno (n : Int) (w : World) : (binOp .eql 28 (.iface 36 (.int .i64 n)) .nilIface).run Tryz.prog w = .ok (.bool false) w := by kernel_rfl
set_option maxHeartbeats 4000000 in
theorem sameErr_any (m n : Int) (w : World) : Calls Tryz.prog 47 #[.iface 36 (.int .i64 m), .iface 36 (.int .i64 n)] w fun e w' => e = .returned (.bool (m == n)) ∧ w' = w := by
  have e0 := nil_errno m
  have e1 := nil_errno n
  have e2 := eql_errno m n
  go_enter Tryz.func47, Tryz.ntmps47
  go_wp2
  go_ret
  exact ⟨rfl, rfl⟩
end Go.Proofs.YtogkchgjpflmjaaGreatDoor
