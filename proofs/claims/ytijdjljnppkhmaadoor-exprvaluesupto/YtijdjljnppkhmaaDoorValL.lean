/- Laws for ExprValues: terms appended inside a drawn region; a map that is filled. -/
import Derived.Test.YtijdjljnppkhmaaDoorValM
import Derived.Test.YtijdjljnppkhmaaDoorConcat
import Derived.Test.YtijdjljnppkhmaaDoorKnownE
import Derived.Test.YtijdjljnppkhmaaDoorRefRight
namespace Go.Proofs.YtijdjljnppkhmaaDoor
open Go.ChangeShapes Go.WideShapes Go.ChangeAt Go.RowKit Go.WideMaps Go.Maps
set_option linter.unusedVariables false
set_option maxRecDepth 100000

theorem app_run (w : World) (ty : TypeId) (base : Nat) (v : Value) (n m : Nat) (zs ts : List Tm) (hn : n = zs.length) (hm3 : m = ts.length) (hown : w.ownsRow base 56 2 v n (rowT zs)) (a3 : Option Addr) (c3 : Nat) (hl : Held w a3 c3 ts) (hm : n + m ≤ 9000000) (hbase : base ≤ w.heap.size) :
    ∃ a' c' w', (Builtin.append_ #[22, 22] ty #[v, .slice a3 m c3]).run Tryd.prog w = .ok (.slice a' (n + m) c') w' ∧ w'.ownsRow base 56 2 (.slice a' (n + m) c') (n + m) (rowT (zs ++ ts)) ∧ w.grownBy w' v.ownBlock := by
  subst hn hm3
  obtain ⟨i0, hi, hz0, hz1, hz2⟩ := info_parts Tryd.info56
  cases a3 with
  | none =>
    obtain ⟨ht, rfl⟩ := hl.nil rfl
    obtain rfl := List.length_eq_zero_iff.1 ht
    have hrun := run_append_owned_none (P := Tryd.prog) (w := w) base 22 ty 56 i0 2 Tryd.underlying22 hi v zs.length (rowT zs) hown
    obtain ⟨a', c', rfl⟩ := own_slice hown
    exact ⟨a', c', w, hrun, by simpa using hown, World.grownBy.refl _ _⟩
  | some ad =>
    obtain ⟨v', w', hrun, r1, r2, _⟩ := run_append_own_wide (P := Tryd.prog) w base 22 ty 56 i0 (.agg #[.string ⟨#[]⟩, .int .u32 0]) 2 24 Tryd.underlying22 hi hz0 hz1 hz2 rfl (by decide) v zs.length (rowT zs) hown ad ts.length c3 (rowT ts) (rowT_length ts) (lies_cells hl.lies) (rowT_one ts) (by unfold maxLen; omega) (by omega) hbase
    obtain ⟨a', c', rfl⟩ := own_slice r1
    exact ⟨a', c', w', hrun, by rw [rowT_append]; exact r1, r2⟩

theorem step_terms {ops : Array Oper} {o : Oper} {a : Act} {K : Act → World → Prop} {Q : Exit → Act → World → Prop} {E : Prop} (w : World) (hgd : o.guard = none) (s x : Operand)
    (ho : o.op = .call { callee := .builtin .append, args := #[s, x], argTypes := #[22, 22] }) (base : Nat) (v : Value) (n m : Nat) (zs ts : List Tm) (hn : n = zs.length) (hm3 : m = ts.length) (hs : a.eval s = v) (hown : w.ownsRow base 56 2 v n (rowT zs))
    (a3 : Option Addr) (c3 : Nat) (hx : a.eval x = .slice a3 m c3) (hl : Held w a3 c3 ts) (hm : n + m ≤ 9000000) (hbase : base ≤ w.heap.size)
    (hK : ∀ a' c' w', w'.ownsRow base 56 2 (.slice a' (n + m) c') (n + m) (rowT (zs ++ ts)) → w.grownBy w' v.ownBlock → K (a.put o.dst (.slice a' (n + m) c')) w') :
    if Region.wanted o (yielded ops a.tmps) = true then Oper.wp Tryd.prog o a w K Q else E := by
  have hw : Region.wanted o (yielded ops a.tmps) = true := by simp [Region.wanted, hgd]
  rw [if_pos hw]
  obtain ⟨a', c', w', hrun, r1, r2⟩ := app_run w o.type base v n m zs ts hn hm3 hown a3 c3 hl hm hbase
  unfold Oper.wp
  simp [execOp, ho, resolve, invoke, builtin, hs, hx, hrun, Result.andThen]
  exact hK a' c' w' r1 r2

/-- an empty slice that was built -/
theorem own_empty (w : World) (B : Nat) (hB : B ≤ w.heap.size) : (w.alloc (.cells #[] 56)).ownsRow B 56 2 (.slice (some ⟨w.heap.size, 0, none⟩) 0 0) 0 (rowT []) :=
  ⟨rfl, .inr ⟨w.heap.size, 0, #[], rfl, hB, heap_alloc_new w _, Nat.le_refl _, Nat.zero_le _, rfl, rfl⟩⟩

/-- a value more -/
def putF (F : List UInt8 → Option Int) (s : List UInt8) (v : Int) : List UInt8 → Option Int := fun x => if x = s then some v else F x
def SpecM (D : DataW Unit) (F : List UInt8 → Option Int) : Prop := IsMap D ∧ ∀ s, has D (.string s) = (F s).isSome ∧ D.atKey (.string s) (.lit (.int .u32 0)) = .lit (.int .u32 ((F s).getD 0))
theorem spec_put {D : DataW Unit} {F : List UInt8 → Option Int} (h : SpecM D F) (s : List UInt8) (v : Int) : SpecM (D.put (.string s) (.lit (.int .u32 v))) (putF F s v) := by
  refine ⟨h.1.put _ _, fun x => ?_⟩
  unfold putF
  by_cases hx : x = s
  · subst hx
    rw [if_pos rfl]
    exact ⟨by rw [has_put_same h.1 (show WideAt.IsKeyLit (.string x) from trivial)]; rfl, by rw [atKey_put_same h.1 (show WideAt.IsKeyLit (.string x) from trivial)]; rfl⟩
  · have n1 : (Lit.string x) ≠ .string s := fun e => hx (by injection e)
    rw [has_put_other n1, atKey_put_other n1, if_neg hx]
    exact h.2 x
theorem spec_empty : SpecM (.map []) (fun _ => none) := ⟨isMap_empty, fun s => ⟨rfl, rfl⟩⟩

/-- the values after the first i names, out of m values -/
def fillF (vs : List Int) (ts : List Tm) : Nat → List UInt8 → Option Int
  | 0 => fun _ => none
  | i + 1 => match ts[i]? with
    | some t => putF (fillF vs ts i) t.name (vs.getD (i % vs.length) 0)
    | none => fillF vs ts i
theorem fillF_step {vs : List Int} {ts : List Tm} {i : Nat} {t : Tm} (h : ts[i]? = some t) : fillF vs ts (i + 1) = putF (fillF vs ts i) t.name (vs.getD (i % vs.length) 0) := by
  rw [fillF, h]
theorem fillF_some (vs : List Int) (ts : List Tm) (i j : Nat) (t : Tm) (hj : j < i) (ht : ts[j]? = some t) : (fillF vs ts i t.name).isSome = true := by
  induction i with
  | zero => omega
  | succ i ih =>
    rw [fillF]
    cases hx : ts[i]? with
    | none =>
      by_cases h : j = i
      · subst h
        rw [hx] at ht
        cases ht
      · exact ih (by omega)
    | some x =>
      simp only [putF]
      by_cases h : t.name = x.name
      · rw [if_pos h]; rfl
      · rw [if_neg h]
        by_cases hji : j = i
        · subst hji
          rw [hx] at ht
          injection ht with ht
          subst ht
          exact absurd rfl h
        · exact ih (by omega)

/-- the numbers vs lie from a on -/
def IntLies (w : World) (a : Option Addr) (vs : List Int) : Prop := vs = [] ∨ ∃ g o, a = some ⟨g, o, none⟩ ∧ g < w.heap.size ∧ ∀ (i : Nat) (v : Int), vs[i]? = some v → w.cell? ⟨g, o + i, none⟩ = some (.int .u32 v)
theorem IntLies.below {w w' : World} {a : Option Addr} {vs : List Int} {B : Nat} (h : IntLies w a vs) (hb : Below B w w') (hB : w.heap.size ≤ B) : IntLies w' a vs := by
  rcases h with h | ⟨g, o, ha, hg, h⟩
  · exact .inl h
  · exact .inr ⟨g, o, ha, Nat.lt_of_lt_of_le hg hb.size, fun i v hi => (hb.cell (p := ⟨g, o + i, none⟩) (by show g < B; omega)).trans (h i v hi)⟩
end Go.Proofs.YtijdjljnppkhmaaDoor
