/- A set of names in memory: map[string]struct{}. -/
import Derived.Test.YtogkchgjpflmjaaGreatDoorEr1
import Derived.WalkKit
import Derived.LaidEql
import Derived.Stop.Asserts
import Derived.RowKitTokens
import Derived.Test.YtogkchgjpflmjaaGreatDoorShelf
import Derived.Test.YtogkchgjpflmjaaGreatDoorNum3
import Derived.Test.YtogkchgjpflmjaaGreatDoorLineM
import Derived.Test.YtogkchgjpflmjaaGreatDoorOwn
import Derived.Test.YtogkchgjpflmjaaGreatDoorHml
import Derived.Test.YtogkchgjpflmjaaGreatDoorDi1
import Derived.Test.YtogkchgjpflmjaaGreatDoorAllIt
import Derived.Maps.OwnSet
import Derived.Maps.OwnOps
/- errors.Is at a refusal of unit's and a number; two errors held against each other; unit's at. -/
namespace Go.Proofs.YtogkchgjpflmjaaGreatDoor
open Go.RowKit Go.Extern.Stop Go.Stop Go.Extern
set_option linter.unusedVariables false
set_option maxRecDepth 100000
theorem methodComparable (v : Value) (w : World) : (Go.method 469 171 v "Comparable").run Tryz.prog w = .ok (219, v) w := by kernel_rfl
theorem comp36 : (Tryz.prog.info? 36).map (·.comparable) = some true := by kernel_rfl
theorem comparable36 (w : World) : ((ReflectliteType.method fun t => do Rtype.noPackHeld "Comparable" t; (fun a => Value.bool a.comparable) <$> typeInfo t) #[.agg #[.pointer (some ⟨7, 36, none⟩)]]).run Tryz.prog w = .ok (.bool true) w := by kernel_rfl
theorem noIsR (v : Value) (xT : TypeId) (w : World) : (Instr.typeAssert (.iface 51 v) xT 210 true).run Tryz.prog w = .ok (.tuple #[.nilIface, .bool false]) w := run_typeAssert_lacksB Tryz.underlying210 (by kernel_rfl) (by kernel_rfl) v xT w
theorem hasUnwrapR (v : Value) (xT : TypeId) (w : World) : (Instr.typeAssert (.iface 51 v) xT 178 true).run Tryz.prog w = .ok (.tuple #[.iface 51 v, .bool true]) w := run_typeAssert_hasB Tryz.underlying178 (by kernel_rfl) v xT w
theorem methodUnwrap (v : Value) (w : World) : (Go.method 469 51 v "Unwrap").run Tryz.prog w = .ok (48, v) w := by kernel_rfl
theorem eql_errno (m n : Int) (w : World) : (binOp .eql 28 (.iface 36 (.int .i64 m)) (.iface 36 (.int .i64 n))).run Tryz.prog w = .ok (.bool (m == n)) w := by
  obtain ⟨i, hi, hcmp⟩ := Option.map_eq_some_iff.1 comp36
  have h : ∀ d : Nat, (Op.equalIn (d + 2) 28 (.iface 36 (.int .i64 m)) (.iface 36 (.int .i64 n))).run Tryz.prog w = .ok (m == n) w := fun d => by
    simp [Op.equalIn, run_underlying Tryz.underlying28, run_underlying Tryz.underlying36, typeInfo, hi, hcmp]
  simp only [binOp]
  simp [Op.equal, Op.maxDepth, h 9998]
set_option maxHeartbeats 4000000 in
theorem unwrap_any (b : Nat) (n : Int) (w : World) (h1 : w.cell? ⟨b, 1, none⟩ = some (.int .i64 n)) :
    Calls Tryz.prog 48 #[.pointer (some ⟨b, 0, none⟩)] w fun e w' => e = .returned (.iface 36 (.int .i64 n)) ∧ w' = w := by
  go_enter Tryz.func48, Tryz.ntmps48
  go_wp2
  go_ret
  exact ⟨rfl, rfl⟩
set_option maxHeartbeats 4000000 in
theorem is_refusal (b : Nat) (n : Int) (w : World) (h1 : w.cell? ⟨b, 1, none⟩ = some (.int .i64 n)) :
    Calls Tryz.prog 49 #[.iface 51 (.pointer (some ⟨b, 0, none⟩)), .iface 36 (.int .i64 n)] w fun e w' => e = .returned (.bool true) ∧ w' = w := by
  have h8 := @run_callFunc_extern Tryz.prog 86 _ ReflectliteType.typeOf Tryz.func86 (by kernel_rfl) (by kernel_rfl) (by kernel_rfl) (by kernel_rfl)
  have h32 := @run_callFunc_extern Tryz.prog 219 _ (ReflectliteType.method fun t => do Rtype.noPackHeld "Comparable" t; pure (.bool (← typeInfo t).comparable)) Tryz.func219 (by kernel_rfl) (by kernel_rfl) (by kernel_rfl) (by kernel_rfl)
  have tT := typeOf36
  have cT := comparable36
  have mR := methodComparable
  have nW := noIsR
  have uW := hasUnwrapR
  have mU := methodUnwrap
  have heq : ∀ w, (binOp .eql 28 (.iface 36 (.int .i64 n)) (.iface 36 (.int .i64 n))).run Tryz.prog w = .ok (.bool true) w := fun w => by rw [eql_errno]; simp
  have hty := run_eql_iface_types (P := Tryz.prog) 51 36 (.pointer (some ⟨b, 0, none⟩)) (.int .i64 n) Tryz.underlying28 (by decide) w
  go_enter Tryz.func49, Tryz.ntmps49
  go_wp2
  refine wp_loop_rounds 2 ?_
  rw [rounds_succ]
  go_wp2
  rw [rounds_succ]
  go_wp2
  go_ret
  exact ⟨rfl, rfl⟩
end Go.Proofs.YtogkchgjpflmjaaGreatDoor
/- unit's at: the line laid beside the number. -/
namespace Go.Proofs.YtogkchgjpflmjaaGreatDoor
open Go.ChangeShapes Go.WideShapes Go.ChangeAt Go.RowKit
set_option linter.unusedVariables false
set_option maxRecDepth 100000
def ErrT (w : World) : Prop := w.cell? ⟨0, 0, none⟩ = some (.iface 171 (.agg #[.pointer (some ⟨7, 28, none⟩)]))
theorem ErrT.lt {w : World} (h : ErrT w) : 0 < w.heap.size := by
  rcases Nat.eq_zero_or_pos w.heap.size with h0 | h1
  · simp [ErrT, World.cell?, h0] at h
  · exact h1
theorem ErrT.below {w w' : World} {B : Nat} (h : ErrT w) (hb : Below B w w') (hB : 0 < B) : ErrT w' := (hb.cell (p := ⟨0, 0, none⟩) hB).trans h
set_option maxHeartbeats 4000000 in
theorem at_nil (n : Int) (w : World) : Calls Tryz.prog 34 #[.int .i64 n, .nilIface] w fun e w' => e = .returned .nilIface ∧ Below w.heap.size w w' := by
  have ha : Hid (∀ t w1, Calls Tryz.prog 25 #[.nilIface, t] w1 fun e w' => e = .returned (.bool false) ∧ w' = w1) := fun t w1 => as_nil t w1
  go_enter Tryz.func34, Tryz.ntmps34
  go_wp2_with (go_at_call 25; (with_reducible refine (ha.out _ _).mono ?_); rintro e w1 ⟨rfl, rfl⟩)
  go_ret
  exact ⟨rfl, below_alloc _ _⟩
theorem as_errno_new (k : Int) (w : World) (hg : ErrT w) :
    Calls Tryz.prog 25 #[.iface 36 (.int .i64 k), .iface 129 (.pointer (some ⟨w.heap.size, 0, none⟩))] (w.alloc (.cells #[.int .i64 0] 36)) fun e w' => e = .returned (.bool true) ∧ Below w.heap.size w w' ∧ w'.cell? ⟨w.heap.size, 0, none⟩ = some (.int .i64 k) := by
  have hlt := hg.lt
  have hc : (w.alloc (.cells #[.int .i64 0] 36)).cell? ⟨w.heap.size, 0, none⟩ = some (.int .i64 0) := by rw [World.cell?_alloc_at _ _ _ _ rfl]; rfl
  refine (as_errno k ⟨w.heap.size, 0, none⟩ (.int .i64 0) (w.alloc (.cells #[.int .i64 0] 36)) (by rw [World.cell?_alloc_lt _ _ ⟨0, 0, none⟩ hlt]; exact hg) hc (by unfold World.frozen?; rw [heap_alloc_new]; rfl)).mono ?_
  rintro e w' ⟨rfl, rfl⟩
  have hq := fun o1 o2 o3 o4 => show (((((w.alloc (.cells #[.int .i64 0] 36)).alloc o1).alloc o2).alloc o3).alloc o4).cell? ⟨w.heap.size, 0, none⟩ = some (.int .i64 0) from by
    rw [World.cell?_alloc_lt _ _ ⟨w.heap.size, 0, none⟩ (by simp; omega), World.cell?_alloc_lt _ _ ⟨w.heap.size, 0, none⟩ (by simp; omega), World.cell?_alloc_lt _ _ ⟨w.heap.size, 0, none⟩ (by simp; omega), World.cell?_alloc_lt _ _ ⟨w.heap.size, 0, none⟩ (by simp)]
    exact hc
  refine ⟨rfl, ?_, ?_⟩
  · exact ((((((below_alloc w _).alloc (by simp) _).alloc (by simp; omega) _).alloc (by simp; omega) _).alloc (by simp; omega) _).setCell (Nat.le_refl _) _)
  · exact World.cell?_setCell_same (h := hq _ _ _ _) ..
set_option maxHeartbeats 4000000 in
theorem at_errno (n k : Int) (w : World) (hg : ErrT w) : Calls Tryz.prog 34 #[.int .i64 n, .iface 36 (.int .i64 k)] w fun e w' => Below w.heap.size w w' ∧ ∃ b, w.heap.size ≤ b ∧ e = .returned (.iface 51 (.pointer (some ⟨b, 0, none⟩))) ∧ w'.heap[b]? = some (.cells #[.int .i64 n, .int .i64 k] 55 (0, 0)) := by
  have ha := Hid.intro (as_errno_new k w hg)
  go_enter Tryz.func34, Tryz.ntmps34
  go_wp2_with (go_at_call 25; (with_reducible refine (ha.out).mono ?_); rintro e w1 ⟨rfl, hb1, hc1⟩)
  go_ret
  exact ⟨hb1.alloc (by have := hb1.size; omega) _, w1.heap.size, hb1.size, rfl, heap_alloc_new _ _⟩
end Go.Proofs.YtogkchgjpflmjaaGreatDoor
/- the law's sameErr, of two numbers. -/
namespace Go.Proofs.YtogkchgjpflmjaaGreatDoor
open Go.ChangeShapes Go.WideShapes Go.ChangeAt Go.RowKit
set_option linter.unusedVariables false
set_option maxRecDepth 100000
theorem nil_errno (n : Int) (w : World) : (binOp .eql 28 (.iface 36 (.int .i64 n)) .nilIface).run Tryz.prog w = .ok (.bool false) w := by kernel_rfl
set_option maxHeartbeats 4000000 in
theorem sameErr_any (m n : Int) (w : World) : Calls Tryz.prog 47 #[.iface 36 (.int .i64 m), .iface 36 (.int .i64 n)] w fun e w' => e = .returned (.bool (m == n)) ∧ w' = w := by
  have e0 := nil_errno m
  have e1 := nil_errno n
  have e2 := eql_errno m n
  go_enter Tryz.func47, Tryz.ntmps47
  go_wp2
  go_ret
  exact ⟨rfl, rfl⟩
end Go.Proofs.YtogkchgjpflmjaaGreatDoor
/- A refusal's place lies in the line. -/
namespace Go.Proofs.YtogkchgjpflmjaaGreatDoor
set_option linter.unusedVariables false
theorem cutT_mem (ts : List Tok) : ∀ t ∈ (cutT ts).2, t ∈ ts := by
  match ts with
  | [] => intro t ht; exact ht
  | [x] => intro t ht; exact ht
  | x :: u :: r =>
    intro t ht
    simp only [cutT] at ht
    split at ht
    · simp at ht; simp [ht]
    · exact ht
theorem argsF_few (n : Nat) (ts arg : List Tok) (acc out : List (List Tok)) (h : argsF n ts arg acc = .ok out) : out.length ≤ acc.length + ts.length + 1 ∧ ∀ xs ∈ out, xs ∈ acc ∨ xs.length ≤ arg.length + ts.length := by
  induction ts generalizing arg acc with
  | nil =>
    unfold argsF at h
    split at h
    · cases h
    · cases h
      refine ⟨by simp, fun xs hx => ?_⟩
      rcases List.mem_append.1 hx with hx | hx
      · exact .inl hx
      · simp at hx; subst hx; exact .inr (by simp)
  | cons t ts ih =>
    unfold argsF at h
    split at h
    · cases h
    · split at h
      · split at h
        · cases h
        · obtain ⟨h1, h2⟩ := ih _ _ h
          refine ⟨by simp at h1 ⊢; omega, fun xs hx => ?_⟩
          rcases h2 xs hx with k | k
          · rcases List.mem_append.1 k with k | k
            · exact .inl k
            · simp at k; subst k; exact .inr (by simp)
          · exact .inr (by simp at k ⊢; omega)
      · obtain ⟨h1, h2⟩ := ih _ _ h
        refine ⟨by simp at h1 ⊢; omega, fun xs hx => ?_⟩
        rcases h2 xs hx with k | k
        · exact .inl k
        · exact .inr (by simp at k ⊢; omega)
theorem cutT_len (ts : List Tok) : (cutT ts).2.length ≤ ts.length := by
  match ts with
  | [] => simp [cutT]
  | [t] => simp [cutT]
  | t :: u :: r =>
    simp only [cutT]
    split
    · simp; omega
    · simp
theorem parseL_few (s : List UInt8) (L : Ln) (h : parseL s = .ok L) : L.args.length ≤ s.length + 1 ∧ ∀ xs ∈ L.args, xs.length ≤ s.length := by
  unfold parseL at h
  cases hs : scan s 0 with
  | error q => rw [hs] at h; cases h
  | ok ts =>
    rw [hs] at h
    have hl := scan_len _ _ _ hs
    have hc := cutT_len ts
    unfold parseT lineT at h
    simp only at h
    split at h
    · cases h
      exact ⟨by simp, fun xs hx => by cases hx⟩
    · rename_i t r heq
      rw [heq] at hc
      simp at hc
      split at h
      · split at h
        · rename_i out hq
          cases h
          unfold argsT at hq
          split at hq
          · cases hq
            exact ⟨by simp, fun xs hx => by cases hx⟩
          · obtain ⟨h1, h2⟩ := argsF_few _ _ _ _ _ hq
            refine ⟨by simp at h1 ⊢; omega, fun xs hx => ?_⟩
            rcases h2 xs hx with k | k
            · cases k
            · simp at k; omega
        · cases h
      · cases h
theorem argsF_mem (n : Nat) (P : Tok → Prop) (ts arg : List Tok) (acc out : List (List Tok)) (h : argsF n ts arg acc = .ok out) (h1 : ∀ t ∈ ts, P t) (h2 : ∀ t ∈ arg, P t) (h3 : ∀ xs ∈ acc, ∀ t ∈ xs, P t) : ∀ xs ∈ out, ∀ t ∈ xs, P t := by
  induction ts generalizing arg acc with
  | nil =>
    unfold argsF at h
    split at h
    · cases h
    · cases h
      intro xs hx
      rcases List.mem_append.1 hx with hx | hx
      · exact h3 xs hx
      · simp at hx; subst hx; exact h2
  | cons t ts ih =>
    unfold argsF at h
    have h1' : ∀ x ∈ ts, P x := fun x hx => h1 x (by simp [hx])
    split at h
    · cases h
    · split at h
      · split at h
        · cases h
        · refine ih _ _ h h1' (fun x hx => by cases hx) (fun xs hx => ?_)
          rcases List.mem_append.1 hx with hx | hx
          · exact h3 xs hx
          · simp at hx; subst hx; exact h2
      · refine ih _ _ h h1' (fun x hx => ?_) h3
        rcases List.mem_append.1 hx with hx | hx
        · exact h2 x hx
        · simp at hx; subst hx; exact h1 x (by simp)
end Go.Proofs.YtogkchgjpflmjaaGreatDoor
/- A line's arguments in memory, as item.Read wants them. -/
namespace Go.Proofs.YtogkchgjpflmjaaGreatDoor
open Go.ChangeShapes Go.WideShapes Go.ChangeAt Go.RowKit
set_option linter.unusedVariables false
set_option maxRecDepth 100000
structure SmallP (xs : List Tok) : Prop where
  few : xs.length ≤ 1000000
  short : ∀ t ∈ xs, t.text.length ≤ 1000000
  any : xs ≠ []
theorem tokLies_fr {w : World} {a : Option Addr} {ts : List Tok} (h : TokLies w a ts) : TokFrom w a ts := by
  rcases h with h | ⟨g, ha, hg, hl⟩
  · exact .inl h
  · refine .inr ⟨g, 0, ha, hg, fun i t hi => ?_⟩
    obtain ⟨h0, h1, h2, h3⟩ := hl i t hi
    rw [Nat.zero_add]
    exact ⟨h0, h1, h2, h3⟩
theorem args_in9 {lo : Nat} {w : World} {a : Option Addr} {n c : Nat} {acc : List (List Tok)} {vs : List Value} {m : Nat} (h : ArgsOwn 182 188 lo w (.slice a n c) acc vs m) (hS : ∀ xs ∈ acc, SmallP xs) : ArgsIn w.heap.size w a acc := by
  refine ⟨?_, Nat.le_refl _⟩
  cases acc with
  | nil => exact .inl rfl
  | cons x0 acc =>
    have hl := h.len
    have hrow := h.row
    obtain ⟨hl', ⟨hv, h0⟩ | ⟨g, cap, cur, hv, hbg, hg, hle, hcap, hsz, htk⟩⟩ := h.row
    · rw [hl] at h0; simp at h0
    · injection hv with hv1 hv2 hv3
      subst hv1
      refine .inr ⟨g, rfl, (Array.getElem?_eq_some_iff.1 hg).1, fun i xs hi => ?_⟩
      have hi' : i < vs.length := by rw [hl]; exact (List.getElem?_eq_some_iff.1 hi).1
      obtain ⟨v, hv⟩ : ∃ v, vs[i]? = some v := ⟨vs[i], List.getElem?_eq_getElem hi'⟩
      obtain ⟨hx0, ho⟩ := h.each i v xs hv hi
      rw [hv2] at hrow
      have hcell := hrow.cellAt i (by omega)
      rw [hv] at hcell
      have hsm := hS xs (List.mem_of_getElem? hi)
      have hfw := hsm.few
      obtain ⟨a', c', rfl, hl2⟩ := own_lies ho
      rcases ho.2 with ⟨hvv, hh0⟩ | ⟨g', cap', cur', hvv, hB, hgh, hle', hcap', _⟩
      · exact absurd hh0 hx0
      · injection hvv with e1 e2 e3
        subst e1 e3
        have hgl := (Array.getElem?_eq_some_iff.1 hgh).1
        exact ⟨_, _, hcell, ⟨tokLies_fr hl2, fun y hy => by cases hy; exact hgl, hle', by unfold maxLen at hcap'; omega, by omega, hsm.short⟩, fun y hy => by cases hy; exact hgl⟩
theorem argsF_ne (n : Nat) (ts arg : List Tok) (acc out : List (List Tok)) (h : argsF n ts arg acc = .ok out) (h3 : ∀ xs ∈ acc, xs ≠ []) : ∀ xs ∈ out, xs ≠ [] := by
  induction ts generalizing arg acc with
  | nil =>
    unfold argsF at h
    split at h
    · cases h
    · rename_i h0
      cases h
      intro xs hx
      rcases List.mem_append.1 hx with hx | hx
      · exact h3 xs hx
      · simp at hx; subst hx; intro e; subst e; exact h0 rfl
  | cons t ts ih =>
    unfold argsF at h
    split at h
    · cases h
    · split at h
      · split at h
        · cases h
        · rename_i h0
          refine ih _ _ h (fun xs hx => ?_)
          rcases List.mem_append.1 hx with hx | hx
          · exact h3 xs hx
          · simp at hx; subst hx; intro e; subst e; exact h0 rfl
      · exact ih _ _ h h3
theorem parseL_every (P : Tok → Prop) (s : List UInt8) (L : Ln) (h : parseL s = .ok L) (hP : ∀ ts, scan s 0 = .ok ts → ∀ t ∈ ts, P t) : ∀ xs ∈ L.args, xs ≠ [] ∧ ∀ t ∈ xs, P t := by
  unfold parseL at h
  cases hs : scan s 0 with
  | error q => rw [hs] at h; cases h
  | ok ts =>
    rw [hs] at h
    have hp := hP ts hs
    have hm := cutT_mem ts
    unfold parseT lineT at h
    simp only at h
    split at h
    · cases h
      intro xs hx
      cases hx
    · rename_i t r heq
      rw [heq] at hm
      split at h
      · split at h
        · rename_i out hq
          cases h
          unfold argsT at hq
          split at hq
          · cases hq
            intro xs hx
            cases hx
          · have h1 := argsF_mem _ P _ _ _ _ hq (fun x hx => hp x (hm x (by simp [hx]))) (fun x hx => by cases hx) (fun x hx => by cases hx)
            have h2 := argsF_ne _ _ _ _ _ hq (fun x hx => by cases hx)
            exact fun xs hx => ⟨h2 xs hx, h1 xs hx⟩
        · cases h
      · cases h
theorem parseL_smallP {s : List UInt8} (hs : s.length ≤ 65536) {L : Ln} (h : parseL s = .ok L) : L.args.length ≤ 65537 ∧ (∀ xs ∈ L.args, SmallP xs) ∧ (∀ xs ∈ L.args, xs.length ≤ 1100000) := by
  obtain ⟨h1, h2⟩ := parseL_few s L h
  refine ⟨by omega, fun xs hx => ?_, fun xs hx => by have := h2 xs hx; omega⟩
  obtain ⟨h3, h4⟩ := parseL_every (fun t => t.text.length ≤ s.length) s L h (fun ts hts t ht => scan_text s 0 ts hts t ht) xs hx
  exact ⟨by have := h2 xs hx; omega, fun t ht => by have := h4 t ht; omega, h3⟩
end Go.Proofs.YtogkchgjpflmjaaGreatDoor
/- A unit in the making, as a function: what unit's take does with a line, what the document's Line does with it, and that the two agree. -/
namespace Go.Proofs.YtogkchgjpflmjaaGreatDoor
open Go.ChangeShapes Go.WideShapes Go.ChangeAt Go.RowKit
set_option linter.unusedVariables false
structure Asm where
  text : List Itm
  data : List Itm
  equs : List (List UInt8 × Lin)
  sec : Int
  given : List (List UInt8)
  asked : List (List UInt8 × Nat)
def asmE : Asm := ⟨[], [], [], 0, [], []⟩
def labF (lb : List UInt8) : List Itm := if lb = [] then [] else [{ itmE with kind := 1, name := lb }]
def lineU (s : List UInt8) (sec : Int) : Except Int (List UInt8 × Thg) :=
  match parseL s with
  | .error _ => .error 20
  | .ok L => if L.label ≠ [] ∧ legB (str L.label) = false then .error 21 else
    match readF L.op L.args sec with
    | .error k => .error k
    | .ok x => .ok (L.label, x)
def nameU (g : List (List UInt8)) (s : List UInt8) : Option (List (List UInt8)) := if s = [] then some g else if s ∈ g then none else some (g ++ [s])
def layU (a : Asm) (n : Nat) (g : List (List UInt8)) (its : List Itm) (x : Thg) : Asm :=
  { text := if a.sec = 1 then a.text else a.text ++ its, data := if a.sec = 1 then a.data ++ its else a.data, equs := if x.kind = 3 then a.equs ++ [(x.name, x.e)] else a.equs, sec := if x.kind = 5 then x.sec else a.sec, given := g, asked := if x.kind = 4 then a.asked ++ [(x.name, n)] else a.asked }
def takeF (a : Asm) (n : Nat) (s : List UInt8) : Except Int Asm :=
  match lineU s a.sec with
  | .error k => .error k
  | .ok (lb, x) =>
    match nameU a.given lb with
    | none => .error 22
    | some g =>
      match (if x.kind = 3 then nameU g x.name else some g) with
      | none => .error 22
      | some g2 => if a.text.length + a.data.length + (labF lb ++ x.items).length > 8192 then .error 4 else .ok (layU a n g2 (labF lb ++ x.items) x)
theorem leg_ne {s : List UInt8} (h : legB (str s) = true) : s ≠ [] := by
  rintro rfl
  revert h
  decide
end Go.Proofs.YtogkchgjpflmjaaGreatDoor
namespace Go.Proofs.YtogkchgjpflmjaaGreatDoor
open Go.ChangeShapes Go.WideShapes Go.ChangeAt Go.RowKit Go.WideMaps Go.Maps
set_option linter.unusedVariables false
set_option maxRecDepth 100000
theorem lawS : Keyed Tryz.prog 9 := string_keyed Tryz.underlying9
theorem zero145 (w : World) : (zeroValue 145).run Tryz.prog w = .ok (.agg #[]) w := by kernel_rfl
def unitE (v : Value) : Option (DataW Unit × List MemPlace) :=
  match v with
  | .agg a => if a = #[] then some (.agg [], []) else none
  | _ => none
theorem unitE_zero : unitE (.agg #[]) = some (.agg [], []) := rfl
theorem unitE_inv {v : Value} {z : DataW Unit × List MemPlace} (h : unitE v = some z) : v = .agg #[] := by
  unfold unitE at h
  split at h
  · split at h
    · rename_i ha; rw [ha]
    · cases h
  · cases h
def SetIs (w : World) (b n : Nat) (g : List (List UInt8)) : Prop :=
  ∃ D : DataW Unit, w.ownsMap Tryz.prog 9 unitE b n D ∧ IsMap D ∧ ∀ s, has D (.string s) = decide (s ∈ g)
theorem SetIs.lt {w : World} {b n : Nat} {g : List (List UInt8)} (h : SetIs w b n g) : b < w.heap.size := by
  obtain ⟨D, h1, _⟩ := h
  exact h1.lt
theorem SetIs.kept {w w' : World} {b n : Nat} {row : Option Nat} {g : List (List UInt8)} (h : SetIs w b n g) (hg : w.grownBy w' row) (hne : some b ≠ row) : SetIs w' b n g := by
  obtain ⟨D, h1, h2, h3⟩ := h
  exact ⟨D, h1.kept hg hne, h2, h3⟩
theorem setlook_run {w : World} {b n : Nat} {g : List (List UInt8)} (h : SetIs w b n g) (s : List UInt8) (hs : s.length ≤ 1100000) : (Instr.lookup 67 (.map (some b)) (.string (str s)) true).run Tryz.prog w = .ok (.tuple #[.agg #[], .bool (decide (s ∈ g))]) w := by
  obtain ⟨D, hown, hD1, hD2⟩ := h
  have hsz : (str s).size ≤ maxLen := by
    have h2 : (str s).size = s.length := by simp [str, ByteArray.size]
    unfold maxLen
    omega
  have hkey : keyOf Tryz.prog 9 (.string (str s)) = some (.string s) := keyOf_string_mk Tryz.underlying9 hsz
  obtain ⟨v, ps, hrun, hv⟩ := hown.look_ok lawS Tryz.underlying67 (zero145 w) unitE_zero hkey
  rw [hrun, unitE_inv hv, hD2 s]
theorem setspec_put {D : DataW Unit} {g : List (List UInt8)} (h : ∀ s, has D (.string s) = decide (s ∈ g)) (hD : IsMap D) (s : List UInt8) : ∀ x, has (D.put (.string s) (.agg [])) (.string x) = decide (x ∈ g ++ [s]) := by
  intro x
  by_cases hx : x = s
  · subst hx
    rw [has_put_same hD (show WideAt.IsKeyLit (.string x) from trivial)]
    simp
  · have n1 : (Lit.string x) ≠ .string s := fun e => hx (by injection e)
    rw [has_put_other n1, h x]
    simp [hx]
theorem setput_run {w : World} {b n : Nat} {g : List (List UInt8)} (h : SetIs w b n g) (hn : n ≤ 3000000) (s : List UInt8) (hs : s.length ≤ 1100000) :
    ∃ w', (Instr.mapUpdate 67 (.map (some b)) (.string (str s)) (.agg #[])).run Tryz.prog w = .ok () w' ∧ SetIs w' b (n + 1) (g ++ [s]) ∧ w.grownBy w' (some b) := by
  obtain ⟨D, hown, hD1, hD2⟩ := h
  have hsz : (str s).size ≤ maxLen := by
    have h2 : (str s).size = s.length := by simp [str, ByteArray.size]
    unfold maxLen
    omega
  have hkey : keyOf Tryz.prog 9 (.string (str s)) = some (.string s) := keyOf_string_mk Tryz.underlying9 hsz
  obtain ⟨w', hrun, r1, r2⟩ := hown.update lawS Tryz.underlying67 (by unfold maxLen; omega) hkey unitE_zero
  exact ⟨w', hrun, ⟨_, r1, hD1.put _ _, setspec_put hD2 hD1 s⟩, r2⟩
end Go.Proofs.YtogkchgjpflmjaaGreatDoor
