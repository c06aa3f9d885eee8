/- the law's sameErr, of two numbers. -/
import Derived.Test.YtmndccbeddaphaaGreatDoorEr1
import Derived.WalkKit
import Derived.LaidEql
import Derived.Stop.Asserts
import Derived.RowKitTokens
/- errors.Is at a refusal of unit's and a number; two errors held against each other; unit's at. -/
namespace Go.Proofs.YtmndccbeddaphaaGreatDoor
open Go.RowKit Go.Extern.Stop Go.Stop Go.Extern
set_option linter.unusedVariables false
set_option maxRecDepth 100000
theorem methodComparable (v : Value) (w : World) : (Go.method 382 167 v "Comparable").run Tryz.prog w = .ok (216, v) w := by kernel_rfl
theorem comp36 : (Tryz.prog.info? 23).map (·.comparable) = some true := by kernel_rfl
theorem comparable36 (w : World) : ((ReflectliteType.method fun t => do Rtype.noPackHeld "Comparable" t; (fun a => Value.bool a.comparable) <$> typeInfo t) #[.agg #[.pointer (some ⟨6, 23, none⟩)]]).run Tryz.prog w = .ok (.bool true) w := by kernel_rfl
theorem noIsR (v : Value) (xT : TypeId) (w : World) : (Instr.typeAssert (.iface 66 v) xT 169 true).run Tryz.prog w = .ok (.tuple #[.nilIface, .bool false]) w := run_typeAssert_lacksB Tryz.underlying169 (by kernel_rfl) (by kernel_rfl) v xT w
theorem hasUnwrapR (v : Value) (xT : TypeId) (w : World) : (Instr.typeAssert (.iface 66 v) xT 172 true).run Tryz.prog w = .ok (.tuple #[.iface 66 v, .bool true]) w := run_typeAssert_hasB Tryz.underlying172 (by kernel_rfl) v xT w
theorem methodUnwrap (v : Value) (w : World) : (Go.method 382 66 v "Unwrap").run Tryz.prog w = .ok (35, v) w := by kernel_rfl
theorem eql_errno (m n : Int) (w : World) : (binOp .eql 32 (.iface 23 (.int .i64 m)) (.iface 23 (.int .i64 n))).run Tryz.prog w = .ok (.bool (m == n)) w := by
  obtain ⟨i, hi, hcmp⟩ := Option.map_eq_some_iff.1 comp36
  have h : ∀ d : Nat, (Op.equalIn (d + 2) 32 (.iface 23 (.int .i64 m)) (.iface 23 (.int .i64 n))).run Tryz.prog w = .ok (m == n) w := fun d => by
    simp [Op.equalIn, run_underlying Tryz.underlying32, run_underlying Tryz.underlying23, typeInfo, hi, hcmp]
  simp only [binOp]
  simp [Op.equal, Op.maxDepth, h 9998]
set_option maxHeartbeats 4000000 in
theorem unwrap_any (b : Nat) (n : Int) (w : World) (h1 : w.cell? ⟨b, 1, none⟩ = some (.int .i64 n)) :
    Calls Tryz.prog 35 #[.pointer (some ⟨b, 0, none⟩)] w fun e w' => e = .returned (.iface 23 (.int .i64 n)) ∧ w' = w := by
  go_enter Tryz.func35, Tryz.ntmps35
  go_wp2
  go_ret
  exact ⟨rfl, rfl⟩
set_option maxHeartbeats 4000000 in
theorem is_refusal (b : Nat) (n : Int) (w : World) (h1 : w.cell? ⟨b, 1, none⟩ = some (.int .i64 n)) :
    Calls Tryz.prog 36 #[.iface 66 (.pointer (some ⟨b, 0, none⟩)), .iface 23 (.int .i64 n)] w fun e w' => e = .returned (.bool true) ∧ w' = w := by
  have h8 := @run_callFunc_extern Tryz.prog 85 _ ReflectliteType.typeOf Tryz.func85 (by kernel_rfl) (by kernel_rfl) (by kernel_rfl) (by kernel_rfl)
  have h32 := @run_callFunc_extern Tryz.prog 216 _ (ReflectliteType.method fun t => do Rtype.noPackHeld "Comparable" t; pure (.bool (← typeInfo t).comparable)) Tryz.func216 (by kernel_rfl) (by kernel_rfl) (by kernel_rfl) (by kernel_rfl)
  have tT := typeOf36
  have cT := comparable36
  have mR := methodComparable
  have nW := noIsR
  have uW := hasUnwrapR
  have mU := methodUnwrap
  have heq : ∀ w, (binOp .eql 32 (.iface 23 (.int .i64 n)) (.iface 23 (.int .i64 n))).run Tryz.prog w = .ok (.bool true) w := fun w => by rw [eql_errno]; simp
  have hty := run_eql_iface_types (P := Tryz.prog) 66 23 (.pointer (some ⟨b, 0, none⟩)) (.int .i64 n) Tryz.underlying32 (by decide) w
  go_enter Tryz.func36, Tryz.ntmps36
  go_wp2
  refine wp_loop_rounds 2 ?_
  rw [rounds_succ]
  go_wp2
  rw [rounds_succ]
  go_wp2
  go_ret
  exact ⟨rfl, rfl⟩
end Go.Proofs.YtmndccbeddaphaaGreatDoor
namespace Go.Proofs.YtmndccbeddaphaaGreatDoor
open Go.ChangeShapes Go.WideShapes Go.ChangeAt Go.RowKit
set_option linter.unusedVariables false
set_option maxRecDepth 100000
theorem nil_errno (n : Int) (w : World) : (binOp .eql 32 (.iface 23 (.int .i64 n)) .nilIface).run Tryz.prog w = .ok (.bool false) w := by kernel_rfl
set_option maxHeartbeats 4000000 in
theorem sameErr_any (m n : Int) (w : World) : Calls Tryz.prog 34 #[.iface 23 (.int .i64 m), .iface 23 (.int .i64 n)] w fun e w' => e = .returned (.bool (m == n)) ∧ w' = w := by
  have e0 := nil_errno m
  have e1 := nil_errno n
  have e2 := eql_errno m n
  go_enter Tryz.func34, Tryz.ntmps34
  go_wp2
  go_ret
  exact ⟨rfl, rfl⟩
end Go.Proofs.YtmndccbeddaphaaGreatDoor
