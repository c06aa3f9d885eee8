/- How a list of instructions that came in is opened. -/
import Derived.Test.YthboapfbgdcdoaaDoorAll1
import Derived.Test.YthboapfbgdcdoaaDoorFrame
import Derived.Deep.Slices
namespace Go.Proofs.YthboapfbgdcdoaaDoor
open Go.ChangeShapes Go.WideShapes Go.ChangeAt Go.RowKit
set_option linter.unusedVariables false
set_option maxRecDepth 100000

theorem add_plain (b off j : Nat) : (⟨b, off, none⟩ : Addr).add j = ⟨b, off + j, none⟩ := by unfold Addr.add; split <;> simp_all

instance : Inhabited Ins := ⟨⟨0, 0, 0, 0, 0⟩⟩
def insOf (V : List Value) : Ins := ⟨intOf (V.getD 0 undef), intOf (V.getD 1 undef), intOf (V.getD 2 undef), intOf (V.getD 3 undef), intOf (V.getD 4 undef)⟩

theorem open_insts {H : Type} {enc : TypeId × Value → H} {W : World} {base : Nat} {v : Value} {d : DataW H} {p : List MemPlace}
    (hval : Value.okWide Tryd.prog W .any base 46 v) (h : DataW.Trod enc Tryd.prog W 0 (fun _ => true) true 46 v d p) :
    ∃ a xs c, v = .slice a xs.length c ∧ ILies W a xs ∧ xs.length ≤ c ∧ c ≤ maxLen := by
  obtain ⟨av, lv, cv, rfl⟩ := okWide_slice Tryd.underlying46 hval
  obtain ⟨fuel, hf⟩ := h
  rcases Deep.open_slice Tryd.underlying46 hf with ⟨hc, _⟩ | ⟨a, len, cap, m, n, D, Pl, hc, _, hlc, hcm, hm, _, hall⟩
  · simp only [Value.cells, List.cons.injEq, and_true] at hc
    cases hc
    exact ⟨none, [], 0, rfl, ⟨(fun x hx => by cases hx), .inl rfl⟩, Nat.le_refl _, Nat.zero_le _⟩
  · simp only [Value.cells, List.cons.injEq, and_true, Value.slice.injEq] at hc
    obtain ⟨h1, h2, h3⟩ := hc
    replace h2 := h2.symm
    replace h3 := h3.symm
    subst h1 h2 h3
    simp only [if_true] at hm
    subst hm
    rw [cells37] at hall
    have each : ∀ i, i < len → ∃ x : Ins, x.ok ∧ ∀ j, j < 5 → W.cell? ((a.add (i * 5)).add j) = x.cells[j]? := fun i hi => by
      obtain ⟨cs', h1, h2⟩ := hall i (by omega)
      obtain ⟨_, hlen, hcell⟩ := World.cells?_some h1
      obtain ⟨c0, c1, c2, c3, c4, rfl⟩ := list5 hlen
      obtain ⟨y0, y1, y2, y3, y4, n', _, _, t0, t1, t2, t3, t4⟩ := trod_struct5 Tryd.underlying26 h2
      simp only [cells3, cells21, List.drop, List.take] at t0 t1 t2 t3 t4
      obtain ⟨z0, e0, _, w0⟩ := DataW.trod_int Tryd.underlying3 t0
      obtain ⟨z1, e1, _, w1⟩ := DataW.trod_int Tryd.underlying3 t1
      obtain ⟨z2, e2, _, w2⟩ := DataW.trod_int Tryd.underlying3 t2
      obtain ⟨z3, e3, _, w3⟩ := DataW.trod_int Tryd.underlying21 t3
      obtain ⟨z4, e4, _, w4⟩ := DataW.trod_int Tryd.underlying3 t4
      simp only [List.cons.injEq, and_true] at e0 e1 e2 e3 e4
      subst e0 e1 e2 e3 e4
      exact ⟨⟨z0, z1, z2, z3, z4⟩, bounds_i32 w3, fun j hj => hcell j hj⟩
    obtain ⟨X, hX⟩ := Deep.choose_lt (α := Ins) (n := len) (p := fun i x => x.ok ∧ ∀ j, j < 5 → W.cell? ((a.add (i * 5)).add j) = x.cells[j]?) each
    have hat : ∀ i x, ((List.range len).map X)[i]? = some x → i < len ∧ x = X i := fun i t ht => by
      rw [List.getElem?_map, Option.map_eq_some_iff] at ht
      obtain ⟨j, hj, rfl⟩ := ht
      obtain ⟨hj1, hj2⟩ := List.getElem?_eq_some_iff.1 hj
      simp at hj1 hj2
      subst hj2
      exact ⟨hj1, rfl⟩
    refine ⟨some a, (List.range len).map X, m, by simp, ⟨fun x hx => ?_, ?_⟩, by simpa using hlc, hcm⟩
    · obtain ⟨i, hi⟩ := List.getElem?_of_mem hx
      obtain ⟨hi2, rfl⟩ := hat i x hi
      exact (hX i hi2).1
    · by_cases h0 : len = 0
      · subst h0
        exact .inl rfl
      · obtain ⟨b, off, spot⟩ := a
        have hspot : spot = none := by
          have := (hX 0 (by omega)).2 0 (by omega)
          simpa [Addr.add] using World.cell?_spot (this.trans rfl)
        subst hspot
        refine .inr ⟨b, off, rfl, fun i x hx => ?_⟩
        obtain ⟨hi, rfl⟩ := hat i x hx
        have hc := (hX i hi).2
        have key : ∀ j, j < 5 → W.cell? ⟨b, off + i * 5 + j, none⟩ = (X i).cells[j]? := fun j hj => by
          have := hc j hj
          rw [add_plain, add_plain] at this
          exact this
        exact ⟨(key 0 (by omega)).trans rfl, (key 1 (by omega)).trans rfl, (key 2 (by omega)).trans rfl, (key 3 (by omega)).trans rfl, (key 4 (by omega)).trans rfl⟩
end Go.Proofs.YthboapfbgdcdoaaDoor
