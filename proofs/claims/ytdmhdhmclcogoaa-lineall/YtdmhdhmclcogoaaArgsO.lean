/- Arguments in memory: a list of lists of tokens, each in a block of its own. -/
import Derived.Test.YtdmhdhmclcogoaaCutl
namespace Go.Proofs.Ytdmhdhmclcogoaa
open Go.ChangeShapes Go.WideShapes Go.ChangeAt Go.RowKit
set_option linter.unusedVariables false
set_option maxRecDepth 100000

theorem grown_of_below {w w' : World} (h : Below w.heap.size w w') : w.grownBy w' none := ⟨h.os, h.tape, h.output, h.size, fun k hk _ => h.block k hk⟩

/-- the arguments acc: va owns the row of the values vs, each of which owns its tokens, in blocks that rise and lie below m; T, E: the types of the slice's and of the tokens' row -/
structure ArgsOwn (T E : TypeId) (lo : Nat) (w : World) (va : Value) (acc : List (List Tok)) (vs : List Value) (m : Nat) : Prop where
  len : vs.length = acc.length
  row : w.ownsRow lo T 1 va vs.length vs
  each : ∀ (i : Nat) (v : Value) (xs : List Tok), vs[i]? = some v → acc[i]? = some xs → xs.length ≠ 0 ∧ w.ownsRow lo E 4 v xs.length (rowOf xs)
  low : ∀ (i : Nat) (v : Value) (g : Nat), vs[i]? = some v → v.ownBlock = some g → g < m
  rise : ∀ (i j : Nat) (v v' : Value) (g g' : Nat), i < j → vs[i]? = some v → vs[j]? = some v' → v.ownBlock = some g → v'.ownBlock = some g' → g < g'
  le : m ≤ w.heap.size

theorem own_type {w : World} {lo : Nat} {T : TypeId} {sz : Nat} {v : Value} {n : Nat} {xs : List Value} (h : w.ownsRow lo T sz v n xs) {g : Nat} (hg : v.ownBlock = some g) : ∃ cur, w.heap[g]? = some (.cells cur T (0, 0)) := by
  rcases h.2 with ⟨rfl, _⟩ | ⟨g', cap, cur, rfl, _, hgg, _⟩
  · simp [Value.ownBlock] at hg
  · simp [Value.ownBlock] at hg
    subst hg
    exact ⟨cur, hgg⟩

theorem own_other {w : World} {lo lo' : Nat} {T T' : TypeId} {sz sz' : Nat} {v v' : Value} {n n' : Nat} {xs xs' : List Value} (h : w.ownsRow lo T sz v n xs) (h' : w.ownsRow lo' T' sz' v' n' xs') (hT : T ≠ T') : v.ownBlock = none ∨ v.ownBlock ≠ v'.ownBlock := by
  cases hv : v.ownBlock with
  | none => exact .inl rfl
  | some g =>
    refine .inr fun e => ?_
    obtain ⟨c1, e1⟩ := own_type h hv
    obtain ⟨c2, e2⟩ := own_type h' e.symm
    rw [e1] at e2
    injection e2 with e2
    injection e2 with _ e2
    exact hT e2

theorem ArgsOwn.start (T E : TypeId) (lo : Nat) (w : World) (m : Nat) (hm : m ≤ w.heap.size) : ArgsOwn T E lo w (.slice none 0 0) [] [] m :=
  ⟨rfl, World.ownsRow_nil _ _ _ _, fun i v xs h => by simp at h, fun i v g h => by simp at h, fun i j v v' g g' _ h => by simp at h, hm⟩

theorem ArgsOwn.grown {T E : TypeId} {lo : Nat} {w w' : World} {va : Value} {acc : List (List Tok)} {vs : List Value} {m : Nat} (h : ArgsOwn T E lo w va acc vs m) {row : Option Nat} (hg : w.grownBy w' row)
    (h1 : va.ownBlock = none ∨ va.ownBlock ≠ row) (h2 : ∀ k, row = some k → m ≤ k) : ArgsOwn T E lo w' va acc vs m := by
  refine ⟨h.len, h.row.kept hg h1, fun i v xs hv hx => ?_, h.low, h.rise, Nat.le_trans h.le hg.size⟩
  obtain ⟨h0, ho⟩ := h.each i v xs hv hx
  refine ⟨h0, ho.kept hg ?_⟩
  cases hb : v.ownBlock with
  | none => exact .inl rfl
  | some g =>
    refine .inr fun e => ?_
    have k1 := h.low i v g hv hb
    have k2 := h2 g e.symm
    omega

theorem ArgsOwn.below {T E : TypeId} {lo : Nat} {w w' : World} {va : Value} {acc : List (List Tok)} {vs : List Value} {m : Nat} (h : ArgsOwn T E lo w va acc vs m) (hb : Below w.heap.size w w') : ArgsOwn T E lo w' va acc vs m :=
  h.grown (grown_of_below hb) (by cases va.ownBlock <;> simp) (fun k e => by cases e)

/-- the argument that grows is another block -/
theorem ArgsOwn.arg {T E : TypeId} {lo : Nat} {w w' : World} {va : Value} {acc : List (List Tok)} {vs : List Value} {m : Nat} (h : ArgsOwn T E lo w va acc vs m) (hT : T ≠ E) {v : Value} {n : Nat} {xs : List Value} (hv : w.ownsRow m E 4 v n xs) (hg : w.grownBy w' v.ownBlock) : ArgsOwn T E lo w' va acc vs m :=
  h.grown hg (own_other h.row hv hT) (fun k e => (hv.lt k e).1)

theorem ArgsOwn.push {T E : TypeId} {lo : Nat} {w w' : World} {va va' : Value} {acc : List (List Tok)} {vs : List Value} {m : Nat} (h : ArgsOwn T E lo w va acc vs m) (hT : T ≠ E) (hlo : lo ≤ m) {v : Value} {xs : List Tok} (h0 : xs.length ≠ 0) (hv : w.ownsRow m E 4 v xs.length (rowOf xs))
    (hg : w.grownBy w' va.ownBlock) (hrow : w'.ownsRow lo T 1 va' (vs.length + 1) (vs ++ [v])) : ArgsOwn T E lo w' va' (acc ++ [xs]) (vs ++ [v]) w'.heap.size := by
  have hv' : w'.ownsRow lo E 4 v xs.length (rowOf xs) := by
    have := hv.kept hg (own_other hv h.row (Ne.symm hT))
    refine ⟨this.1, ?_⟩
    rcases this.2 with hx | ⟨g, cap, cur, k1, k2, k3⟩
    · exact .inl hx
    · exact .inr ⟨g, cap, cur, k1, by omega, k3⟩
  have hlt : ∀ (i : Nat) (u : Value), (vs ++ [v])[i]? = some u → (i < vs.length ∧ vs[i]? = some u) ∨ (i = vs.length ∧ u = v) := fun i u hu => by
    by_cases hi : i < vs.length
    · rw [List.getElem?_append_left hi] at hu; exact .inl ⟨hi, hu⟩
    · rw [List.getElem?_append_right (by omega)] at hu
      have : i - vs.length = 0 := by
        apply Decidable.byContradiction
        intro hn
        rw [List.getElem?_eq_none (by simp; omega)] at hu
        cases hu
      rw [this] at hu
      simp at hu
      exact .inr ⟨by omega, hu.symm⟩
  refine ⟨by simp [h.len], by simpa using hrow, fun i u ys hu hy => ?_, fun i u g hu hb => ?_, fun i j u u' g g' hij hu hu' hb hb' => ?_, Nat.le_refl _⟩
  · rcases hlt i u hu with ⟨hi, hu⟩ | ⟨hi, hu⟩
    · rw [List.getElem?_append_left (by rw [← h.len]; exact hi)] at hy
      obtain ⟨k0, k1⟩ := h.each i u ys hu hy
      exact ⟨k0, k1.kept hg (own_other k1 h.row (Ne.symm hT))⟩
    · subst hu
      rw [hi, h.len, List.getElem?_append_right (Nat.le_refl _), Nat.sub_self] at hy
      simp at hy
      subst hy
      exact ⟨h0, hv'⟩
  · rcases hlt i u hu with ⟨hi, hu⟩ | ⟨hi, hu⟩
    · have := h.low i u g hu hb
      have := h.le
      have := hg.size
      omega
    · subst hu
      exact (hv'.lt g hb).2
  · rcases hlt i u hu with ⟨hi, k1⟩ | ⟨hi, k1⟩
    · rcases hlt j u' hu' with ⟨hj, k2⟩ | ⟨hj, k2⟩
      · exact h.rise i j u u' g g' hij k1 k2 hb hb'
      · rw [k2] at hb'
        have k3 := h.low i u g k1 hb
        have k4 := (hv.lt g' hb').1
        omega
    · rcases hlt j u' hu' with ⟨hj, k2⟩ | ⟨hj, k2⟩
      · omega
      · omega
end Go.Proofs.Ytdmhdhmclcogoaa
