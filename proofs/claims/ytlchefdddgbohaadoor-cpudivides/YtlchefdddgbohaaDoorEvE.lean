/- Regions that draw their order: new places; what holds on the way. -/
import Derived.Test.YtlchefdddgbohaaDoorEvD
noncomputable section
namespace Go.Ev
open Go.RowKit
set_option linter.unusedVariables false
set_option linter.unusedSimpArgs false
section
variable {P : Program} {ty : Ty} {sz : Nat → Nat} {w0 : World} {Φ : Fx} {R : Rn} {w : World} {h : Hp}
theorem row_or {l : List Value} {cur : Array Value} (hl : A2 (SR R) l cur.toList) {R' : Rn} (e : Ext0 R R') (i el : Nat) : OR sz R' i (.row ⟨l, el, false⟩) (.cells cur el (0, 0)) :=
  ⟨cur, rfl, fun j v hv => by
    obtain ⟨v', h1, h2⟩ := hl.2 j v hv
    exact ⟨v', by rw [← Array.getElem?_toList]; exact h1, h2.ext e⟩, fun _ => by have := hl.1; simpa using this.symm, fun hx => by cases hx⟩
theorem newCs_is (T : TyOK P ty) {t len : Nat} {ps : List (Nat × Value)} {ps' : Array (Nat × Value)} (hp : PR R ps ps'.toList) {e : Nat} {cs : List Value} (ho : newCs ty t len ps = some (e, cs)) :
    len < many ∧ ∃ r' : Array Value, A2 (SR R) cs r'.toList ∧ (Instr.buildSlice t len ps').run P w = .ok (.slice (some ⟨w.heap.size, 0, none⟩) len len) (w.alloc (.cells r' e)) := by
  unfold newCs at ho
  split at ho
  · rename_i el hd
    have hu := desc_is T hd
    cases hnone : Nat.beq len 0 && ps.isEmpty with
    | true =>
      rw [hnone] at ho
      dsimp only [cond_true] at ho
      rw [Bool.and_eq_true, List.isEmpty_iff] at hnone
      obtain ⟨k1, k2⟩ := hnone
      have k3 := Nat.eq_of_beq_eq_true k1
      subst k3
      subst k2
      have k4 : ps' = #[] := Array.ext' (by generalize ps'.toList = q at hp; cases hp; rfl)
      subst k4
      split at ho
      · rename_i s hs
        cases ho
        refine ⟨by unfold many; omega, #[], ⟨rfl, fun i v hv => by cases hv⟩, ?_⟩
        simp [Instr.buildSlice, run_underlying hu, size_is T w hs, Instr.fill, newRow]
        have e0 : Array.range 0 = #[] := by decide
        rw [e0, Array.map_empty]
      · cases ho
    | false =>
      rw [hnone] at ho
      dsimp only [cond_false] at ho
      split at ho
      · rename_i s z hs hz
        split at ho
        · rename_i zc hzc
          cases hc : zc.all lit && Nat.ble (len * s) 10000 && Nat.blt 0 (len * s) && Nat.beq zc.length s with
          | false => rw [hc] at ho; cases ho
          | true =>
            rw [hc] at ho
            dsimp only [cond_true] at ho
            simp only [Bool.and_eq_true, Nat.ble_eq, Nat.blt_eq] at hc
            obtain ⟨⟨⟨hc1, hc2⟩, hc3⟩, hc4⟩ := hc
            have hzl := Nat.eq_of_beq_eq_true hc4
            cases hf : fillA (fun i => some (i * s, s)) (zeros len zc) ps with
            | none => rw [hf] at ho; cases ho
            | some cs2 =>
              rw [hf] at ho
              cases ho
              obtain ⟨it, hi1, hi2⟩ := zero_info T hz
              obtain ⟨it2, hj1, hj2⟩ := size_info T hs
              rw [hi1] at hj1
              cases hj1
              subst hj2
              have hcz := cellsOf_cells hzc
              have hczs : z.cells.size = it.size := by rw [← hzl, ← hcz]; simp
              have hpos : 0 < zc.length := by
                rcases Nat.eq_zero_or_pos zc.length with h0 | h0
                · rw [hzl] at h0; rw [h0] at hc3; simp at hc3
                · exact h0
              have hbase : A2 (SR R) (zeros len zc) ((Array.range (len * it.size)).map (z.cells[· % z.cells.size]!)).toList := by
                refine ⟨by rw [zeros_len, hzl]; simp, fun j x hx => ?_⟩
                have hj : j < len * zc.length := by have := (List.getElem?_eq_some_iff.1 hx).1; rwa [zeros_len] at this
                rw [zeros_get zc hpos len j hj] at hx
                refine ⟨x, ?_, .lit x (List.all_eq_true.1 hc1 x (List.mem_of_getElem? hx))⟩
                have hj2 : j < len * it.size := by rw [← hzl]; exact hj
                have hm : j % it.size < z.cells.size := by rw [hczs]; exact Nat.mod_lt _ (by omega)
                rw [hzl, ← hcz, Array.getElem?_toList] at hx
                simp [hj2, hczs]
                rw [getElem!_pos z.cells (j % it.size) hm]
                rw [Array.getElem?_eq_getElem hm] at hx
                exact Option.some.inj hx
              obtain ⟨r', h2, h3⟩ := fill_is _ hp _ _ _ hbase hf
              have hle : len ≤ len * it.size := Nat.le_mul_of_pos_right _ (by omega)
              exact ⟨by unfold many; omega, r', h3, run_buildSlice (P := P) w t _ len ps' r' it z hu hi1 hi2 (by omega) (by omega) h2⟩
        · cases ho
      · cases ho
  · cases ho
theorem operN_is (T : TyOK P ty) {fr : Fr} {o : Oper} {k : NV} {ob : Ob} (he : operN ty fr o = some (k, ob)) {rd : Option Nat} {nt : Nat} {a : Act} (hf : FR R rd nt fr a) :
    (∀ n c, k = .sl n c → c < many) ∧ ∃ o', (execOp a.eval o).run P w = .ok (.value (k.val w.heap.size)) (w.alloc o') ∧ ∀ R' i, Ext0 R R' → OR sz R' i ob o' := by
  unfold operN at he
  cases hop : o.op <;> rw [hop] at he <;> (try dsimp only at he) <;> first | (cases he; done) | skip
  case alloc e =>
    split at he
    · rename_i z hz
      split at he
      · rename_i l hc
        cases hl : l.all lit with
        | false => rw [hl] at he; cases he
        | true =>
          rw [hl] at he
          cases he
          have hcz := cellsOf_cells hc
          refine ⟨fun n c hk => (by cases hk), .cells z.cells e, ?_, fun R' i x => row_or (R := R) (by rw [hcz]; exact A2.lits hl) x i e⟩
          have : (Instr.alloc e true (.tuple #[])).run P w = .ok (NV.ptr.val w.heap.size) (w.alloc (.cells z.cells e)) := by simp [Instr.alloc, zero_is T w hz, newVar, newRow, NV.val]
          unfold execOp
          rw [hop]
          exact run_v this
      · cases he
    · cases he
  case box e x =>
    split at he
    · rename_i v hv
      split at he
      · rename_i l hc
        cases he
        obtain ⟨v', h1, h2⟩ := ev1_is hf hv
        refine ⟨fun n c hk => (by cases hk), .cells v'.cells e, ?_, fun R' i x => row_or (cellsOf_is h2 hc) x i e⟩
        have : (Instr.box e v').run P w = .ok (NV.ptr.val w.heap.size) (w.alloc (.cells v'.cells e)) := by simp [Instr.box, newVar, newRow, NV.val]
        unfold execOp
        rw [hop]
        dsimp only
        rw [h1]
        exact run_v this
      · cases he
    · cases he
  case buildSlice t len ps =>
    split at he
    · rename_i l hl
      split at he
      · rename_i e cs hcs
        cases he
        obtain ⟨h0, r', h1, h2⟩ := newCs_is (P := P) (w := w) T (ps' := ps.map fun (i, x) => (i, a.eval x)) (by rw [parts_map]; exact evP_is hf _ _ hl) hcs
        refine ⟨fun n c hk => by cases hk; exact h0, .cells r' e, ?_, fun R' i x => row_or h1 x i e⟩
        unfold execOp
        rw [hop]
        exact run_v h2
      · cases he
    · cases he
  case makeSlice t x y =>
    split at he
    · rename_i p u hp hu
      split at he
      · rename_i n m e cs hm
        cases he
        obtain ⟨p', h1, h2⟩ := ev1_is hf hp
        obtain ⟨u', h3, h4⟩ := ev1_is hf hu
        obtain ⟨_, h6, r', h7, h8⟩ := newMk_is (P := P) (w := w) T h2 h4 hm
        refine ⟨fun n' c' hk => by cases hk; exact h6, .cells r' e, ?_, fun R' i x => row_or h7 x i e⟩
        unfold execOp
        rw [hop]
        dsimp only
        rw [h1, h3]
        exact run_v h8
      · cases he
    · cases he
  case makeMap t r =>
    cases r with
    | some x => cases he
    | none =>
      cases he
      refine ⟨fun n c hk => (by cases hk), .map #[] 0, ?_, fun R' i x => ⟨#[], rfl, .nil⟩⟩
      unfold execOp
      rw [hop]
      rfl
theorem NV.rel (hh : HR sz w0 Φ R w h) (k : NV) (hk : ∀ n c, k = .sl n c → c < many) {x g : Nat} (hD : R.D x) (hρ : R.ρ x = g) : VR R (k.val x) (k.val g) := by
  cases k with
  | ptr => exact ptr_new hh hD hρ
  | sl n c => exact sl_new hh hD hρ n c (hk n c rfl)
  | mp =>
    have := SR.mp (R := R) x hD
    rw [hρ] at this
    exact .inl (.inl this)
/-- a name that no place has yet -/
theorem HR.addD (hh : HR sz w0 Φ R w h) {x : Nat} (hx : x < R.N) (hD : ¬ R.D x) (g k : Nat) : HR sz w0 Φ (R.addAt x g k) w h := by
  have e := R.addAt_ext hD g k
  have hne : ∀ j c, h.heap.get j = some c → (R.addAt x g k).ρ j = R.ρ j := fun j c hc => e.ρ j (hh.blk j c hc).1
  refine ⟨hh.nx, hh.small, hh.bel, hh.frm, fun j hj => ?_, fun j c hc => ?_, fun i j c d hc hd hij => ?_, hh.tabE, fun g' l hl => ?_⟩
  · rcases hj with hj | rfl
    · exact hh.dom j hj
    · exact hx
  · obtain ⟨h1, h2, o, h3, h4⟩ := hh.blk j c hc
    rw [hne j c hc]
    exact ⟨.inl h1, h2, o, h3, h4.ext e h1⟩
  · rw [hne i c hc, hne j d hd] at hij
    exact hh.inj i j c d hc hd hij
  · obtain ⟨h1, cur, e', z, h2, h3⟩ := hh.tab g' l hl
    exact ⟨h1, cur, e', z, h2, h3.mono fun _ _ h => h.ext e⟩
/-- a frame that keeps more -/
def Fx.or (Φ : Fx) (Ψ : Nat → Prop) : Fx := ⟨fun k => Φ k ∨ Ψ k, Φ.tab⟩
theorem HR.narrow (hh : HR sz w0 Φ R w h) {Ψ : Nat → Prop} (h1 : ∀ k, Ψ k → k < w.heap.size) (h2 : ∀ j c, h.heap.get j = some c → ¬ Ψ (R.ρ j)) : HR sz w (Φ.or Ψ) R w h :=
  ⟨hh.nx, hh.small, Stay.refl _ _, fun k hk => by
    rcases hk with hk | hk
    · exact hh.stay hk
    · exact h1 k hk, hh.dom, fun i b hb => by
    obtain ⟨k1, k2, o, k3, k4⟩ := hh.blk i b hb
    exact ⟨k1, fun hx => hx.elim k2 (h2 i b hb), o, k3, k4⟩, hh.inj, hh.tabE, fun g l hl => by
    obtain ⟨k1, k2⟩ := hh.tab g l hl
    exact ⟨.inl k1, k2⟩⟩
theorem HR.widen (hh : HR sz w0 Φ R w h) {Ψ : Nat → Prop} {R' : Rn} {w' : World} {h' : Hp} (hh' : HR sz w (Φ.or Ψ) R' w' h') : HR sz w0 Φ R' w' h' :=
  ⟨hh'.nx, hh'.small, hh.bel.trans (hh'.bel.mono fun k hk => .inl hk), hh.frm, hh'.dom, fun i b hb => by
    obtain ⟨k1, k2, o, k3, k4⟩ := hh'.blk i b hb
    exact ⟨k1, fun hx => k2 (.inl hx), o, k3, k4⟩, hh'.inj, hh'.tabE, fun g l hl => by
    obtain ⟨_, k2⟩ := hh'.tab g l hl
    exact ⟨(hh.tab g l (by rw [hh.tabE]; rw [hh'.tabE] at hl; exact hl)).1, k2⟩⟩
end
end Go.Ev
