/- line.arguments. -/
import Derived.Test.YtogkchgjpflmjaaGreatDoorEr2
import Derived.Test.YtogkchgjpflmjaaGreatDoorTmMem
import Derived.Test.YtogkchgjpflmjaaGreatDoorTRoom
/- errors.Is at a refusal of unit's and a number; two errors held against each other; unit's at. -/
namespace Go.Proofs.YtogkchgjpflmjaaGreatDoor
open Go.RowKit Go.Extern.Stop Go.Stop Go.Extern
set_option linter.unusedVariables false
set_option maxRecDepth 100000
theorem methodComparable (v : Value) (w : World) : (Go.method 469 171 v "Comparable").run Tryz.prog w = .ok (219, v) w := by kernel_rfl
theorem comp36 : (Tryz.prog.info? 36).map (·.comparable) = some true := by kernel_rfl
theorem comparable36 (w : World) : ((ReflectliteType.method fun t => do Rtype.noPackHeld "Comparable" t; (fun a => Value.bool a.comparable) <$> typeInfo t) #[.agg #[.pointer (some ⟨7, 36, none⟩)]]).run Tryz.prog w = .ok (.bool true) w := by kernel_rfl
theorem noIsR (v : Value) (xT : TypeId) (w : World) : (Instr.typeAssert (.iface 51 v) xT 210 true).run Tryz.prog w = .ok (.tuple #[.nilIface, .bool false]) w := run_typeAssert_lacksB Tryz.underlying210 (by kernel_rfl) (by kernel_rfl) v xT w
theorem hasUnwrapR (v : Value) (xT : TypeId) (w : World) : (Instr.typeAssert (.iface 51 v) xT 178 true).run Tryz.prog w = .ok (.tuple #[.iface 51 v, .bool true]) w := run_typeAssert_hasB Tryz.underlying178 (by kernel_rfl) v xT w
theorem methodUnwrap (v : Value) (w : World) : (Go.method 469 51 v "Unwrap").run Tryz.prog w = .ok (48, v) w := by kernel_rfl
theorem eql_errno (m n : Int) (w : World) : (binOp .eql 28 (.iface 36 (.int .i64 m)) (.iface 36 (.int .i64 n))).run Tryz.prog w = .ok (.bool (m == n)) w := by
  obtain ⟨i, hi, hcmp⟩ := Option.map_eq_some_iff.1 comp36
  have h : ∀ d : Nat, (Op.equalIn (d + 2) 28 (.iface 36 (.int .i64 m)) (.iface 36 (.int .i64 n))).run Tryz.prog w = .ok (m == n) w := fun d => by
    simp [Op.equalIn, run_underlying Tryz.underlying28, run_underlying Tryz.underlying36, typeInfo, hi, hcmp]
  simp only [binOp]
  simp [Op.equal, Op.maxDepth, h 9998]
set_option maxHeartbeats 4000000 in
theorem unwrap_any (b : Nat) (n : Int) (w : World) (h1 : w.cell? ⟨b, 1, none⟩ = some (.int .i64 n)) :
    Calls Tryz.prog 48 #[.pointer (some ⟨b, 0, none⟩)] w fun e w' => e = .returned (.iface 36 (.int .i64 n)) ∧ w' = w := by
  go_enter Tryz.func48, Tryz.ntmps48
  go_wp2
  go_ret
  exact ⟨rfl, rfl⟩
set_option maxHeartbeats 4000000 in
theorem is_refusal (b : Nat) (n : Int) (w : World) (h1 : w.cell? ⟨b, 1, none⟩ = some (.int .i64 n)) :
    Calls Tryz.prog 49 #[.iface 51 (.pointer (some ⟨b, 0, none⟩)), .iface 36 (.int .i64 n)] w fun e w' => e = .returned (.bool true) ∧ w' = w := by
  have h8 := @run_callFunc_extern Tryz.prog 86 _ ReflectliteType.typeOf Tryz.func86 (by kernel_rfl) (by kernel_rfl) (by kernel_rfl) (by kernel_rfl)
  have h32 := @run_callFunc_extern Tryz.prog 219 _ (ReflectliteType.method fun t => do Rtype.noPackHeld "Comparable" t; pure (.bool (← typeInfo t).comparable)) Tryz.func219 (by kernel_rfl) (by kernel_rfl) (by kernel_rfl) (by kernel_rfl)
  have tT := typeOf36
  have cT := comparable36
  have mR := methodComparable
  have nW := noIsR
  have uW := hasUnwrapR
  have mU := methodUnwrap
  have heq : ∀ w, (binOp .eql 28 (.iface 36 (.int .i64 n)) (.iface 36 (.int .i64 n))).run Tryz.prog w = .ok (.bool true) w := fun w => by rw [eql_errno]; simp
  have hty := run_eql_iface_types (P := Tryz.prog) 51 36 (.pointer (some ⟨b, 0, none⟩)) (.int .i64 n) Tryz.underlying28 (by decide) w
  go_enter Tryz.func49, Tryz.ntmps49
  go_wp2
  refine wp_loop_rounds 2 ?_
  rw [rounds_succ]
  go_wp2
  rw [rounds_succ]
  go_wp2
  go_ret
  exact ⟨rfl, rfl⟩
end Go.Proofs.YtogkchgjpflmjaaGreatDoor
/- unit's at: the line laid beside the number. -/
namespace Go.Proofs.YtogkchgjpflmjaaGreatDoor
open Go.ChangeShapes Go.WideShapes Go.ChangeAt Go.RowKit
set_option linter.unusedVariables false
set_option maxRecDepth 100000
def ErrT (w : World) : Prop := w.cell? ⟨0, 0, none⟩ = some (.iface 171 (.agg #[.pointer (some ⟨7, 28, none⟩)]))
theorem ErrT.lt {w : World} (h : ErrT w) : 0 < w.heap.size := by
  rcases Nat.eq_zero_or_pos w.heap.size with h0 | h1
  · simp [ErrT, World.cell?, h0] at h
  · exact h1
theorem ErrT.below {w w' : World} {B : Nat} (h : ErrT w) (hb : Below B w w') (hB : 0 < B) : ErrT w' := (hb.cell (p := ⟨0, 0, none⟩) hB).trans h
set_option maxHeartbeats 4000000 in
theorem at_nil (n : Int) (w : World) : Calls Tryz.prog 34 #[.int .i64 n, .nilIface] w fun e w' => e = .returned .nilIface ∧ Below w.heap.size w w' := by
  have ha : Hid (∀ t w1, Calls Tryz.prog 25 #[.nilIface, t] w1 fun e w' => e = .returned (.bool false) ∧ w' = w1) := fun t w1 => as_nil t w1
  go_enter Tryz.func34, Tryz.ntmps34
  go_wp2_with (go_at_call 25; (with_reducible refine (ha.out _ _).mono ?_); rintro e w1 ⟨rfl, rfl⟩)
  go_ret
  exact ⟨rfl, below_alloc _ _⟩
theorem as_errno_new (k : Int) (w : World) (hg : ErrT w) :
    Calls Tryz.prog 25 #[.iface 36 (.int .i64 k), .iface 129 (.pointer (some ⟨w.heap.size, 0, none⟩))] (w.alloc (.cells #[.int .i64 0] 36)) fun e w' => e = .returned (.bool true) ∧ Below w.heap.size w w' ∧ w'.cell? ⟨w.heap.size, 0, none⟩ = some (.int .i64 k) := by
  have hlt := hg.lt
  have hc : (w.alloc (.cells #[.int .i64 0] 36)).cell? ⟨w.heap.size, 0, none⟩ = some (.int .i64 0) := by rw [World.cell?_alloc_at _ _ _ _ rfl]; rfl
  refine (as_errno k ⟨w.heap.size, 0, none⟩ (.int .i64 0) (w.alloc (.cells #[.int .i64 0] 36)) (by rw [World.cell?_alloc_lt _ _ ⟨0, 0, none⟩ hlt]; exact hg) hc (by unfold World.frozen?; rw [heap_alloc_new]; rfl)).mono ?_
  rintro e w' ⟨rfl, rfl⟩
  have hq := fun o1 o2 o3 o4 => show (((((w.alloc (.cells #[.int .i64 0] 36)).alloc o1).alloc o2).alloc o3).alloc o4).cell? ⟨w.heap.size, 0, none⟩ = some (.int .i64 0) from by
    rw [World.cell?_alloc_lt _ _ ⟨w.heap.size, 0, none⟩ (by simp; omega), World.cell?_alloc_lt _ _ ⟨w.heap.size, 0, none⟩ (by simp; omega), World.cell?_alloc_lt _ _ ⟨w.heap.size, 0, none⟩ (by simp; omega), World.cell?_alloc_lt _ _ ⟨w.heap.size, 0, none⟩ (by simp)]
    exact hc
  refine ⟨rfl, ?_, ?_⟩
  · exact ((((((below_alloc w _).alloc (by simp) _).alloc (by simp; omega) _).alloc (by simp; omega) _).alloc (by simp; omega) _).setCell (Nat.le_refl _) _)
  · exact World.cell?_setCell_same (h := hq _ _ _ _) ..
set_option maxHeartbeats 4000000 in
theorem at_errno (n k : Int) (w : World) (hg : ErrT w) : Calls Tryz.prog 34 #[.int .i64 n, .iface 36 (.int .i64 k)] w fun e w' => Below w.heap.size w w' ∧ ∃ b, w.heap.size ≤ b ∧ e = .returned (.iface 51 (.pointer (some ⟨b, 0, none⟩))) ∧ w'.heap[b]? = some (.cells #[.int .i64 n, .int .i64 k] 55 (0, 0)) := by
  have ha := Hid.intro (as_errno_new k w hg)
  go_enter Tryz.func34, Tryz.ntmps34
  go_wp2_with (go_at_call 25; (with_reducible refine (ha.out).mono ?_); rintro e w1 ⟨rfl, hb1, hc1⟩)
  go_ret
  exact ⟨hb1.alloc (by have := hb1.size; omega) _, w1.heap.size, hb1.size, rfl, heap_alloc_new _ _⟩
end Go.Proofs.YtogkchgjpflmjaaGreatDoor
/- the law's sameErr, of two numbers. -/
namespace Go.Proofs.YtogkchgjpflmjaaGreatDoor
open Go.ChangeShapes Go.WideShapes Go.ChangeAt Go.RowKit
set_option linter.unusedVariables false
set_option maxRecDepth 100000
theorem nil_errno (n : Int) (w : World) : (binOp .eql 28 (.iface 36 (.int .i64 n)) .nilIface).run Tryz.prog w = .ok (.bool false) w := by kernel_rfl
set_option maxHeartbeats 4000000 in
theorem sameErr_any (m n : Int) (w : World) : Calls Tryz.prog 47 #[.iface 36 (.int .i64 m), .iface 36 (.int .i64 n)] w fun e w' => e = .returned (.bool (m == n)) ∧ w' = w := by
  have e0 := nil_errno m
  have e1 := nil_errno n
  have e2 := eql_errno m n
  go_enter Tryz.func47, Tryz.ntmps47
  go_wp2
  go_ret
  exact ⟨rfl, rfl⟩
end Go.Proofs.YtogkchgjpflmjaaGreatDoor
namespace Go.Proofs.YtogkchgjpflmjaaGreatDoor
open Go.ChangeShapes Go.WideShapes Go.ChangeAt Go.RowKit
set_option linter.unusedVariables false
set_option maxRecDepth 100000
theorem Tryz.info182 : (Tryz.prog.info? 182).map (fun i => (i.zero, i.size, i.bytes)) = some (some (.slice none 0 0), 1, 24) := by kernel_rfl
abbrev ltokO (t : Tok) : Obj := .cells #[.int .i64 t.kind, .string (str t.text), .int .u32 t.num, .int .i64 (t.place : Int)] 188
theorem box_new (w : World) (t : Tok) : TokOff (w.alloc (ltokO t)) w.heap.size 0 t := by
  have key : ∀ k, (w.alloc (ltokO t)).cell? ⟨w.heap.size, k, none⟩ = (#[Value.int .i64 t.kind, .string (str t.text), .int .u32 t.num, .int .i64 (t.place : Int)] : Array Value)[k]? := fun k => by
    rw [cell_of_row _ _ _ _ 188 (0, 0) (heap_alloc_new w _)]
  exact ⟨key 0, key 1, key 2, key 3⟩
theorem box_below {w w1 : World} {t : Tok} (hb : Below (w.alloc (ltokO t)).heap.size (w.alloc (ltokO t)) w1) : TokOff w1 w.heap.size 0 t := (box_new w t).below hb (by simp)
theorem lalloc_lt {w w1 : World} {o : Obj} (hb : Below (w.alloc o).heap.size (w.alloc o) w1) : w.heap.size < w1.heap.size := by
  have := hb.size
  simp at this
  omega
theorem lone_below {w w1 : World} {o : Obj} (hb : Below (w.alloc o).heap.size (w.alloc o) w1) : Below w.heap.size w w1 := (lbelow_alloc w o).trans (hb.mono (by simp))
theorem ltwo_below {w w1 w2 : World} {o : Obj} (hb : Below (w.alloc o).heap.size (w.alloc o) w1) (hb2 : Below w1.heap.size w1 w2) : Below w.heap.size w w2 := (lone_below hb).trans (hb2.mono (lone_below hb).size)
structure LASt (ts : List Tok) (e : Nat) (w0 : World) (R : Except Nat (List (List Tok))) (i : Nat) (arg : List Tok) (acc : List (List Tok)) (va v : Value) (vs : List Value) (m : Nat) (w : World) : Prop where
  le : i ≤ ts.length
  few : arg.length ≤ i
  fewA : acc.length ≤ i
  eq : R = argsF e (ts.drop i) arg acc
  own : w.ownsRow m 188 4 v arg.length (rowOf arg)
  args : ArgsOwn 182 188 w0.heap.size w va acc vs m
  lo : w0.heap.size ≤ m
  bel : Below w0.heap.size w0 w
def AOut (B : Nat) (w0 : World) (R : Except Nat (List (List Tok))) (e : Ending) (w' : World) : Prop := Below B w0 w' ∧
  match R with
  | .ok acc => ∃ va vs m, e = .returned (.tuple #[va, .int .i64 0, .int .i64 0]) ∧ ArgsOwn 182 188 B w' va acc vs m
  | .error p => e = .returned (.tuple #[.slice none 0 0, .int .i64 (p : Int), .int .i64 20])
theorem lown_slice {w : World} {lo : Nat} {T : TypeId} {sz : Nat} {v : Value} {n : Nat} {xs : List Value} (h : w.ownsRow lo T sz v n xs) : ∃ a c, v = .slice a n c := by
  obtain ⟨hl, ⟨hv, h0⟩ | ⟨g, cap, cur, hv, r⟩⟩ := h
  · exact ⟨none, 0, by rw [hv, h0]⟩
  · exact ⟨_, cap, hv⟩
theorem ldrop_at {α : Type} (ts : List α) (i : Nat) (t : α) (h : ts[i]? = some t) : ts.drop i = t :: ts.drop (i + 1) := by
  obtain ⟨hi, he⟩ := List.getElem?_eq_some_iff.1 h
  rw [List.drop_eq_getElem_cons hi, he]
theorem ast_more {ts : List Tok} {e : Nat} {w0 : World} {R : Except Nat (List (List Tok))} {i : Nat} {arg : List Tok} {acc : List (List Tok)} {va v : Value} {vs : List Value} {m : Nat} {w : World} (h : LASt ts e w0 R i arg acc va v vs m w)
    (t : Tok) (ht : ts[i]? = some t) (h1 : isS t 58 = false) (h2 : isS t 44 = false) (w2 w3 : World) (v2 : Value) (o : Obj) (hb : Below w.heap.size w w2) (hg : (w2.alloc o).grownBy w3 v.ownBlock)
    (ho : w3.ownsRow m 188 4 v2 (arg.length + 1) (rowOf arg ++ t.cells)) : LASt ts e w0 R (i + 1) (arg ++ [t]) acc va v2 vs m w3 := by
  have hi := (List.getElem?_eq_some_iff.1 ht).1
  have hf := h.few
  have hfA := h.fewA
  have hsz := h.bel.size
  have hb' := hb.size
  have hlo := h.lo
  have hm := h.args.le
  refine ⟨by omega, by simp; omega, by omega, ?_, ?_, ?_, h.lo, ?_⟩
  · rw [h.eq, ldrop_at ts i t ht, argsF_more _ _ _ _ _ h1 h2]
  · rw [rowOf_push, List.length_append]
    exact ho
  · exact ((h.args.below hb).below (lbelow_alloc w2 o)).arg (by decide) ((ownsRow_below h.own hb).alloc o) hg
  · exact ((h.bel.trans (hb.mono (by omega))).alloc (by omega) o).grown hg (by simp; omega) (fun k hk => by have := (h.own.lt k hk).1; omega)
theorem ast_comma {ts : List Tok} {e : Nat} {w0 : World} {R : Except Nat (List (List Tok))} {i : Nat} {arg : List Tok} {acc : List (List Tok)} {va v : Value} {vs : List Value} {m : Nat} {w : World} (h : LASt ts e w0 R i arg acc va v vs m w)
    (t : Tok) (ht : ts[i]? = some t) (h1 : isS t 58 = false) (h2 : isS t 44 = true) (h0 : arg.length ≠ 0) (w2 w3 : World) (va2 : Value) (o : Obj) (hb : Below w.heap.size w w2) (hg : (w2.alloc o).grownBy w3 va.ownBlock)
    (ho : w3.ownsRow w0.heap.size 182 1 va2 (vs.length + 1) (vs ++ [v])) : LASt ts e w0 R (i + 1) [] (acc ++ [arg]) va2 (.slice none 0 0) (vs ++ [v]) w3.heap.size w3 := by
  have hi := (List.getElem?_eq_some_iff.1 ht).1
  have hf := h.few
  have hfA := h.fewA
  have hsz := h.bel.size
  have hb' := hb.size
  have hlo := h.lo
  have hm := h.args.le
  have hg' := hg.size
  simp at hg'
  refine ⟨by omega, by simp, by simp; omega, ?_, World.ownsRow_nil _ _ _ _, ?_, by omega, ?_⟩
  · rw [h.eq, ldrop_at ts i t ht, argsF_comma _ _ _ _ _ h1 h2 h0]
  · exact ((h.args.below hb).below (lbelow_alloc w2 o)).push (by decide) h.lo h0 ((ownsRow_below h.own hb).alloc o) hg ho
  · exact ((h.bel.trans (hb.mono (by omega))).alloc (by omega) o).grown hg (by simp; omega) (fun k hk => (h.args.row.lt k hk).1)
theorem ast_end {ts : List Tok} {e : Nat} {w0 : World} {R : Except Nat (List (List Tok))} {arg : List Tok} {acc : List (List Tok)} {va v : Value} {vs : List Value} {m : Nat} {w : World} (h : LASt ts e w0 R ts.length arg acc va v vs m w)
    (h0 : arg.length ≠ 0) (w3 : World) (va2 : Value) (o : Obj) (hg : (w.alloc o).grownBy w3 va.ownBlock) (ho : w3.ownsRow w0.heap.size 182 1 va2 (vs.length + 1) (vs ++ [v])) :
    AOut w0.heap.size w0 R (.returned (.tuple #[va2, .int .i64 0, .int .i64 0])) w3 := by
  have hsz := h.bel.size
  have hm := h.args.le
  have hR : R = .ok (acc ++ [arg]) := by rw [h.eq, List.drop_length, argsF, if_neg h0]
  rw [hR]
  refine ⟨(h.bel.alloc (by omega) o).grown hg (by simp; omega) (fun k hk => (h.args.row.lt k hk).1), va2, vs ++ [v], w3.heap.size, rfl, ?_⟩
  exact (h.args.below (lbelow_alloc w o)).push (by decide) h.lo h0 (h.own.alloc o) hg ho
end Go.Proofs.YtogkchgjpflmjaaGreatDoor
