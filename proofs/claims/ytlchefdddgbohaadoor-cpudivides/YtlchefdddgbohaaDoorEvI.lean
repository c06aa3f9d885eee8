/- The evaluator's append of so many zeros to nothing. -/
import Derived.Test.YtlchefdddgbohaaDoorEvK
noncomputable section
namespace Go.Ev
open Go.RowKit Go.MapKept
set_option linter.unusedVariables false
set_option linter.unusedSimpArgs false
def o_appendZ (ty : Ty) (h : Hp) (t t2 : Nat) (x y : Value) : Option (Value × Hp) :=
  match x, y, desc ty t, desc ty t2 with
  | .slice none 0 0, .int _ (.ofNat m), some (.slice e), some (.int _) => match ty.get e with
    | some i => match i.zero with
      | some z => match cellsOf z with
        | some zc => bif zc.all lit && Nat.blt 0 m && Nat.ble m 100000 && Nat.ble (m * i.bytes) 100000 && Nat.beq zc.length i.size && Nat.blt 0 i.size then match newA h (.row ⟨zeros m zc, e, true⟩) with
            | some (k, h') => some (.slice (some ⟨k, 0, none⟩) m many, h')
            | none => none
          else none
        | none => none
      | none => none
    | none => none
  | _, _, _, _ => none
section
variable {P : Program} {ty : Ty} {sz : Nat → Nat} {w0 : World} {Φ : Fx} {R : Rn} {w : World} {h : Hp}
theorem run_append_zeros {t t2 u e : TypeId} {i : TypeInfo} {z : Value} {q : IntKind} (ht : P.underlying t = some (.slice e)) (ht2 : P.underlying t2 = some (.int q)) (hi : P.info? e = some i) (hz : i.zero = some z) (k : IntKind) (m : Nat) (h0 : 0 < m) (hm : m ≤ 100000) (hb : m * i.bytes ≤ 100000) (hs : 0 < i.size) (w : World) :
    (Builtin.append_ #[t, t2] u #[.slice none 0 0, .int k (m : Int)]).run P w = .ok (.slice (some ⟨w.heap.size, 0, none⟩) m (grownCap w m 0 e)) (w.drew.alloc (.cells (Builtin.zeroCells z.cells m ++ Builtin.zeroCells z.cells (grownCap w m 0 e - m)) e)) := by
  have hn : m ≠ 0 := by omega
  have h63' : ¬ (9223372036854775807 < (m : Int)) := by omega
  have h48' : ¬ (281474976710656 < Builtin.nextslicecap m 0 * i.bytes) := by rw [nextslicecap_zero h0]; omega
  have wl : IntKind.i64.wrap (m : Int) = m := by rw [IntKind.wrap_i64]; omega
  have h49 : ¬ (281474976710656 < (m : Int) * (i.bytes : Int)) := by
    have : ((m * i.bytes : Nat) : Int) ≤ 100000 := by omega
    rw [Int.natCast_mul] at this
    omega
  have h5 : ¬ ((m : Int) < 0) := by omega
  have h6 : ¬ (i.size = 0) := by omega
  simp [Builtin.append_, run_underlying ht, run_underlying ht2, sizeOf, typeInfo, zeroValue, hi, hz, asInt, asIntOf, wl, h5, h49, hn, h63', h48', h6, Question.forced, run_firstCells_none, newRow, grownCap]
  intro hms
  rcases Nat.mul_eq_zero.1 hms with h | h <;> omega
theorem zeroCells_A2 {zc : List Value} {z : Value} (hcz : z.cells.toList = zc) (hl : zc.all lit = true) (hpos : 0 < zc.length) (m : Nat) : A2 (SR R) (zeros m zc) (Builtin.zeroCells z.cells m).toList := by
  have hsz : z.cells.size = zc.length := by rw [← hcz]; simp
  refine ⟨by rw [zeros_len, Array.length_toList (xs := Builtin.zeroCells z.cells m), size_zeroCells, hsz], fun j x hx => ?_⟩
  have hj : j < m * zc.length := by have := (List.getElem?_eq_some_iff.1 hx).1; rwa [zeros_len] at this
  rw [zeros_get zc hpos m j hj] at hx
  refine ⟨x, ?_, .lit x (List.all_eq_true.1 hl x (List.mem_of_getElem? hx))⟩
  have hm : j % z.cells.size < z.cells.size := Nat.mod_lt _ (by omega)
  rw [← hsz, ← hcz, Array.getElem?_toList, Array.getElem?_eq_getElem hm] at hx
  rw [Array.getElem?_toList]
  unfold Builtin.zeroCells
  simp [hsz, hj]
  rw [← hsz, getElem!_pos z.cells (j % z.cells.size) hm]
  exact Option.some.inj hx
theorem o_appendZ_is (T : TyOK P ty) (hS : SzOK ty sz) (hh : HR sz w0 Φ R w h) {t t2 u : Nat} {x y x' y' v : Value} {h' : Hp} (hx : VR R x x') (hy : VR R y y') (ho : o_appendZ ty h t t2 x y = some (v, h')) :
    Ok P sz w0 Φ R w h' v (Builtin.append_ #[t, t2] u #[x', y']) := by
  unfold o_appendZ at ho
  split at ho
  · rename_i k m e q hd hd2
    have hu := desc_is T hd
    have hu2 := desc_is T hd2
    have e1 := hx.sliceNil
    subst e1
    rw [hy.int]
    split at ho
    · rename_i i hi
      have hinf := T.ty e i hi
      split at ho
      · rename_i z hz
        split at ho
        · rename_i zc hzc
          cases hc : zc.all lit && Nat.blt 0 m && Nat.ble m 100000 && Nat.ble (m * i.bytes) 100000 && Nat.beq zc.length i.size && Nat.blt 0 i.size with
          | false => rw [hc] at ho; cases ho
          | true =>
            rw [hc] at ho
            dsimp only [cond_true] at ho
            simp only [Bool.and_eq_true, Nat.ble_eq, Nat.blt_eq] at hc
            obtain ⟨⟨⟨⟨⟨hc1, hc2⟩, hc3⟩, hc4⟩, hc5⟩, hc6⟩ := hc
            have hzl := Nat.eq_of_beq_eq_true hc5
            split at ho
            · rename_i k2 h2 hn
              cases ho
              have hcz := cellsOf_cells hzc
              have hA := zeroCells_A2 (R := R) hcz hc1 (by omega) m
              have hcap := grownCap_ge w m 0 e
              have hcap2 := grownCap_le_maxLen w m 0 e (by unfold maxLen; omega)
              have hszz : z.cells.size = i.size := by rw [← hzl, ← hcz]; simp
              generalize hC : grownCap w m 0 e = C at hcap hcap2
              have hrun := run_append_zeros (P := P) (u := u) hu hu2 hinf hz k m hc2 hc3 hc4 hc6 w
              rw [hC] at hrun
              have hs1 : Stay Φ w w.drew := ⟨rfl, rfl, rfl, Nat.le_refl _, fun _ _ => rfl⟩
              have hh1 : HR sz w0 Φ R w.drew h := hh.on hs1 fun _ _ _ => rfl
              obtain ⟨rfl, hr⟩ := hh1.new (w' := w.drew.alloc (.cells (Builtin.zeroCells z.cells m ++ Builtin.zeroCells z.cells (C - m)) e)) (g := w.heap.size) (k := C) (b := ⟨zeros m zc, e, true⟩) (cur := Builtin.zeroCells z.cells m ++ Builtin.zeroCells z.cells (C - m)) (hh1.stayAlloc _) hh1.young (fun i c hc => Nat.ne_of_lt (hh1.old hc)) (World.alloc_heap_new w.drew _)
                (fun i c hc => Below.heap_alloc _ _ _ (hh1.old hc)) (fun j x hx => by
                  obtain ⟨x', h3, h4⟩ := hA.2 j x hx
                  refine ⟨x', ?_, h4⟩
                  rw [Array.getElem?_toList] at h3
                  rw [Array.getElem?_append_left (Array.getElem?_eq_some_iff.1 h3).1]
                  exact h3) (fun hx => by cases hx) (fun _ => ⟨hcap2, by
                    show _ = C * sz e
                    rw [hS e i hi, Array.size_append, size_zeroCells, size_zeroCells, hszz, ← Nat.add_mul, Nat.add_sub_cancel' hcap]⟩) hn
              have hDN : (R.add w.heap.size C).D R.N := .inr rfl
              have eρ : (R.add w.heap.size C).ρ R.N = w.heap.size := if_pos rfl
              have eκ : (R.add w.heap.size C).κ R.N = C := if_pos rfl
              refine ⟨_, _, _, hh1.add_ext _ _, hr, ?_, hrun⟩
              have hs := SR.slg (R := R.add w.heap.size C) ⟨R.N, 0, none⟩ m C rfl hDN (hr.small_of hDN) hcap (fun _ => eκ.symm)
              have era : ra (R.add w.heap.size C) ⟨R.N, 0, none⟩ = ⟨w.heap.size, 0, none⟩ := by unfold ra; rw [rb_of hr hDN, eρ]
              rw [era] at hs
              exact .inl (.inl hs)
            · cases ho
        · cases ho
      · cases ho
    · cases ho
  · cases ho
end
end Go.Ev
