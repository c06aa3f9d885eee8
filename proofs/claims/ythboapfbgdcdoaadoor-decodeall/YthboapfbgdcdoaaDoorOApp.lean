/- The walk of the statement OctetBack, where what comes in is of at most some million values and letters. -/
import Derived.Test.YthboapfbgdcdoaaDoorOGot
namespace Go.Proofs.YthboapfbgdcdoaaDoor
open Go.ChangeShapes Go.WideShapes Go.ChangeAt Go.RowKit
set_option linter.unusedVariables false

theorem app_law {ops : Array Oper} {rest : List Oper} {o : Oper} {a : Act} {Q : Exit → Act → World → Prop} (w : World) (hgd : o.guard = none) (s x : Operand)
    (ho : o.op = .call { callee := .builtin .append, args := #[s, x], argTypes := #[22, 22] }) (base : Nat) (v : Value) (zs ts : List Int) (hs : a.eval s = v) (hown : Own w base v zs)
    (a3 : Option Addr) (c3 : Nat) (hx : a.eval x = .slice a3 ts.length c3) (hl : Lies w a3 ts) (hna : a3 = none → ts.length = 0 ∧ c3 = 0) (hm : zs.length + ts.length ≤ 140737488355328) (hbase : base ≤ w.heap.size)
    (h : ∀ a' c' w', Got w' base a' c' (zs ++ ts) → Below base w w' → wpList Tryd.prog ops Q rest (a.put o.dst (.slice a' (zs ++ ts).length c')) w') : wpList Tryd.prog ops Q (o :: rest) a w := by
  obtain ⟨i0, hi, hz0, hz1, hz2⟩ := info_parts Tryd.info5
  cases a3 with
  | none =>
    obtain ⟨ht, rfl⟩ := hna rfl
    obtain rfl := List.length_eq_zero_iff.1 ht
    refine wpList_append_own_none hgd s x 22 ho base 5 i0 1 Tryd.underlying22 hi v zs.length (cellsOf zs) hs hown hx ?_
    obtain ⟨a', c', rfl, hg⟩ := own_got hown
    have e : zs ++ [] = zs := List.append_nil zs
    have := h a' c' w (by rw [e]; exact hg) (Below.refl _ _)
    rw [e] at this
    exact this
  | some ad =>
    refine wpList_append_own w hgd s x 22 ho base 5 i0 (.int .u8 0) 1 1 Tryd.underlying22 hi hz0 hz1 hz2 rfl (by decide) v zs.length (cellsOf zs) hs hown ad ts.length c3 (cellsOf ts) hx (by simp [cellsOf_length]) (lies_olds hl (Below.refl _ _) ad rfl) (cellsOf_one ts) (by unfold maxLen; omega) (by omega) hbase ?_
    intro v' w' hown' hgrow _
    have ho' : Own w' base v' (zs ++ ts) := by
      unfold Own
      rw [List.length_append]
      simpa [cellsOf] using hown'
    obtain ⟨a', c', rfl, hg⟩ := own_got ho'
    exact h a' c' w' hg ((Below.refl _ _).grown hgrow hbase (fun k hk => (hown.lt k hk).1))

theorem app_law_at {ops : Array Oper} {rest : List Oper} {o : Oper} {a : Act} {Q : Exit → Act → World → Prop} (w : World) (hgd : o.guard = none) (s x : Operand)
    (ho : o.op = .call { callee := .builtin .append, args := #[s, x], argTypes := #[22, 22] }) (base : Nat) (v : Value) (zs ts L : List Int) (hL : L = zs ++ ts) (hs : a.eval s = v) (hown : Own w base v zs)
    (a3 : Option Addr) (c3 : Nat) (hx : a.eval x = .slice a3 ts.length c3) (hl : Lies w a3 ts) (hna : a3 = none → ts.length = 0 ∧ c3 = 0) (hm : zs.length + ts.length ≤ 140737488355328) (hbase : base ≤ w.heap.size)
    (h : ∀ a' c' w', Got w' base a' c' L → Below base w w' → wpList Tryd.prog ops Q rest (a.put o.dst (.slice a' L.length c')) w') : wpList Tryd.prog ops Q (o :: rest) a w := by
  subst hL
  exact app_law w hgd s x ho base v zs ts hs hown a3 c3 hx hl hna hm hbase h

theorem areBytes_append {xs ys : List Int} (h1 : AreBytes xs) (h2 : AreBytes ys) : AreBytes (xs ++ ys) := by
  intro z hz
  rcases List.mem_append.1 hz with h | h
  · exact h1 z h
  · exact h2 z h


/-- the same at a step of a region that draws its order -/
theorem step_app {ops : Array Oper} {o : Oper} {a : Act} {K : Act → World → Prop} {Q : Exit → Act → World → Prop} {E : Prop} (w : World) (hgd : o.guard = none) (s x : Operand)
    (ho : o.op = .call { callee := .builtin .append, args := #[s, x], argTypes := #[22, 22] }) (base : Nat) (v : Value) (zs ts : List Int) (hs : a.eval s = v) (hown : Own w base v zs)
    (a3 : Option Addr) (c3 m : Nat) (hx : a.eval x = .slice a3 m c3) (hmt : m = ts.length) (hl : Lies w a3 ts) (hna : a3 = none → ts.length = 0 ∧ c3 = 0) (hm : zs.length + ts.length ≤ 140737488355328) (hbase : base ≤ w.heap.size)
    (h : ∀ a' c' k w', k = (zs ++ ts).length → Got w' base a' c' (zs ++ ts) → Below base w w' → K (a.put o.dst (.slice a' k c')) w') :
    if Region.wanted o (yielded ops a.tmps) = true then Oper.wp Tryd.prog o a w K Q else E := by
  subst hmt
  have hw : Region.wanted o (yielded ops a.tmps) = true := by simp [Region.wanted, hgd]
  rw [if_pos hw]
  obtain ⟨i0, hi, hz0, hz1, hz2⟩ := info_parts Tryd.info5
  cases a3 with
  | none =>
    obtain ⟨ht, rfl⟩ := hna rfl
    obtain rfl := List.length_eq_zero_iff.1 ht
    have hrun := run_append_owned_none (P := Tryd.prog) (w := w) base 22 o.type 5 i0 1 Tryd.underlying22 hi v zs.length (cellsOf zs) hown
    obtain ⟨a', c', rfl, hg⟩ := own_got hown
    have e : zs ++ [] = zs := List.append_nil zs
    have := h a' c' _ w rfl (by rw [e]; exact hg) (Below.refl _ _)
    rw [e] at this
    unfold Oper.wp
    simp [execOp, ho, resolve, invoke, builtin, hs, hx, hrun, Result.andThen]
    exact this
  | some ad =>
    refine wp_append_own w s x 22 ho base 5 i0 (.int .u8 0) 1 1 Tryd.underlying22 hi hz0 hz1 hz2 rfl (by decide) v zs.length (cellsOf zs) hs hown ad ts.length c3 (cellsOf ts) hx (by simp [cellsOf_length]) (lies_olds hl (Below.refl _ _) ad rfl) (cellsOf_one ts) (by unfold maxLen; omega) (by omega) hbase ?_
    intro v' w' hown' hgrow _
    have ho' : Own w' base v' (zs ++ ts) := by
      unfold Own
      rw [List.length_append]
      simpa [cellsOf] using hown'
    obtain ⟨a', c', rfl, hg⟩ := own_got ho'
    exact h a' c' _ w' rfl hg ((Below.refl _ _).grown hgrow hbase (fun k hk => (hown.lt k hk).1))
end Go.Proofs.YthboapfbgdcdoaaDoor
