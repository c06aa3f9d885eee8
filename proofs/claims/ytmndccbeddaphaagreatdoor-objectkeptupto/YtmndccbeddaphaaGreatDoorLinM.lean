/- Lins as lists of terms: their coefficients, the one list that has given coefficients, sums and products. -/
import Derived.Test.YtmndccbeddaphaaGreatDoorEr1
import Derived.WalkKit
import Derived.LaidEql
import Derived.Stop.Asserts
import Derived.RowKitTokens
import Derived.Lib.Bytealg
namespace Go.Proofs.YtmndccbeddaphaaGreatDoor
open Go.RowKit Go.Extern.Stop Go.Stop Go.Extern
set_option linter.unusedVariables false
set_option maxRecDepth 100000
theorem methodComparable (v : Value) (w : World) : (Go.method 382 167 v "Comparable").run Tryz.prog w = .ok (216, v) w := by kernel_rfl
theorem comp36 : (Tryz.prog.info? 23).map (·.comparable) = some true := by kernel_rfl
theorem comparable36 (w : World) : ((ReflectliteType.method fun t => do Rtype.noPackHeld "Comparable" t; (fun a => Value.bool a.comparable) <$> typeInfo t) #[.agg #[.pointer (some ⟨6, 23, none⟩)]]).run Tryz.prog w = .ok (.bool true) w := by kernel_rfl
theorem noIsR (v : Value) (xT : TypeId) (w : World) : (Instr.typeAssert (.iface 66 v) xT 169 true).run Tryz.prog w = .ok (.tuple #[.nilIface, .bool false]) w := run_typeAssert_lacksB Tryz.underlying169 (by kernel_rfl) (by kernel_rfl) v xT w
theorem hasUnwrapR (v : Value) (xT : TypeId) (w : World) : (Instr.typeAssert (.iface 66 v) xT 172 true).run Tryz.prog w = .ok (.tuple #[.iface 66 v, .bool true]) w := run_typeAssert_hasB Tryz.underlying172 (by kernel_rfl) v xT w
theorem methodUnwrap (v : Value) (w : World) : (Go.method 382 66 v "Unwrap").run Tryz.prog w = .ok (35, v) w := by kernel_rfl
theorem eql_errno (m n : Int) (w : World) : (binOp .eql 32 (.iface 23 (.int .i64 m)) (.iface 23 (.int .i64 n))).run Tryz.prog w = .ok (.bool (m == n)) w := by
  obtain ⟨i, hi, hcmp⟩ := Option.map_eq_some_iff.1 comp36
  have h : ∀ d : Nat, (Op.equalIn (d + 2) 32 (.iface 23 (.int .i64 m)) (.iface 23 (.int .i64 n))).run Tryz.prog w = .ok (m == n) w := fun d => by
    simp [Op.equalIn, run_underlying Tryz.underlying32, run_underlying Tryz.underlying23, typeInfo, hi, hcmp]
  simp only [binOp]
  simp [Op.equal, Op.maxDepth, h 9998]
set_option maxHeartbeats 4000000 in
theorem unwrap_any (b : Nat) (n : Int) (w : World) (h1 : w.cell? ⟨b, 1, none⟩ = some (.int .i64 n)) :
    Calls Tryz.prog 35 #[.pointer (some ⟨b, 0, none⟩)] w fun e w' => e = .returned (.iface 23 (.int .i64 n)) ∧ w' = w := by
  go_enter Tryz.func35, Tryz.ntmps35
  go_wp2
  go_ret
  exact ⟨rfl, rfl⟩
set_option maxHeartbeats 4000000 in
theorem is_refusal (b : Nat) (n : Int) (w : World) (h1 : w.cell? ⟨b, 1, none⟩ = some (.int .i64 n)) :
    Calls Tryz.prog 36 #[.iface 66 (.pointer (some ⟨b, 0, none⟩)), .iface 23 (.int .i64 n)] w fun e w' => e = .returned (.bool true) ∧ w' = w := by
  have h8 := @run_callFunc_extern Tryz.prog 85 _ ReflectliteType.typeOf Tryz.func85 (by kernel_rfl) (by kernel_rfl) (by kernel_rfl) (by kernel_rfl)
  have h32 := @run_callFunc_extern Tryz.prog 216 _ (ReflectliteType.method fun t => do Rtype.noPackHeld "Comparable" t; pure (.bool (← typeInfo t).comparable)) Tryz.func216 (by kernel_rfl) (by kernel_rfl) (by kernel_rfl) (by kernel_rfl)
  have tT := typeOf36
  have cT := comparable36
  have mR := methodComparable
  have nW := noIsR
  have uW := hasUnwrapR
  have mU := methodUnwrap
  have heq : ∀ w, (binOp .eql 32 (.iface 23 (.int .i64 n)) (.iface 23 (.int .i64 n))).run Tryz.prog w = .ok (.bool true) w := fun w => by rw [eql_errno]; simp
  have hty := run_eql_iface_types (P := Tryz.prog) 66 23 (.pointer (some ⟨b, 0, none⟩)) (.int .i64 n) Tryz.underlying32 (by decide) w
  go_enter Tryz.func36, Tryz.ntmps36
  go_wp2
  refine wp_loop_rounds 2 ?_
  rw [rounds_succ]
  go_wp2
  rw [rounds_succ]
  go_wp2
  go_ret
  exact ⟨rfl, rfl⟩
end Go.Proofs.YtmndccbeddaphaaGreatDoor
namespace Go.Proofs.YtmndccbeddaphaaGreatDoor
set_option linter.unusedVariables false
structure Tm where
  name : List UInt8
  coef : Int
deriving DecidableEq
def nlt (a b : List UInt8) : Bool := Op.bytesLess a b
theorem nlt_nil (a : List UInt8) : nlt a [] = false := by cases a <;> rfl
theorem nlt_cons (a b : UInt8) (x y : List UInt8) : nlt (a :: x) (b :: y) = (decide (a < b) || (a == b && nlt x y)) := rfl
theorem u8_trans {a b c : UInt8} (h : a < b) (h2 : b < c) : a < c := by rw [UInt8.lt_iff_toNat_lt] at *; omega
theorem u8_tri (a b : UInt8) : a < b ∨ a = b ∨ b < a := by
  rw [UInt8.lt_iff_toNat_lt, UInt8.lt_iff_toNat_lt, ← UInt8.toNat_inj]
  omega
theorem nlt_irrefl (a : List UInt8) : nlt a a = false := by
  induction a with
  | nil => rfl
  | cons a x ih => rw [nlt_cons, ih]; simp
theorem nlt_trans {a b c : List UInt8} (h : nlt a b = true) (h2 : nlt b c = true) : nlt a c = true := by
  induction a generalizing b c with
  | nil =>
    cases c with
    | nil => rw [nlt_nil] at h2; cases h2
    | cons c z => rfl
  | cons a x ih =>
    cases b with
    | nil => rw [nlt_nil] at h; cases h
    | cons b y =>
      cases c with
      | nil => rw [nlt_nil] at h2; cases h2
      | cons c z =>
        rw [nlt_cons] at *
        simp only [Bool.or_eq_true, decide_eq_true_eq, Bool.and_eq_true, beq_iff_eq] at *
        rcases h with h | ⟨h, h'⟩
        · rcases h2 with h2 | ⟨h2, h2'⟩
          · exact .inl (u8_trans h h2)
          · subst h2; exact .inl h
        · subst h
          rcases h2 with h2 | ⟨h2, h2'⟩
          · exact .inl h2
          · exact .inr ⟨h2, ih h' h2'⟩
theorem nlt_tri (a b : List UInt8) : nlt a b = true ∨ a = b ∨ nlt b a = true := by
  induction a generalizing b with
  | nil => cases b with
    | nil => exact .inr (.inl rfl)
    | cons => exact .inl rfl
  | cons a x ih => cases b with
    | nil => exact .inr (.inr rfl)
    | cons b y =>
      rw [nlt_cons, nlt_cons]
      rcases u8_tri a b with h | h | h
      · exact .inl (by simp [h])
      · subst h
        rcases ih y with h | h | h
        · exact .inl (by simp [h])
        · exact .inr (.inl (by rw [h]))
        · exact .inr (.inr (by simp [h]))
      · exact .inr (.inr (by simp [h]))
theorem nlt_asymm {a b : List UInt8} (h : nlt a b = true) : nlt b a = false := by
  cases h2 : nlt b a
  · rfl
  · have := nlt_trans h h2; rw [nlt_irrefl] at this; cases this
theorem nlt_ne {a b : List UInt8} (h : nlt a b = true) : a ≠ b := by
  intro e; subst e; rw [nlt_irrefl] at h; cases h
/-! ### gathering -/
def Sorted (l : List Tm) : Prop := l.Pairwise (fun a b => nlt b.name a.name = false)
/-! ### the one list -/
/-! ### Times -/
/-! ### Add -/
end Go.Proofs.YtmndccbeddaphaaGreatDoor
