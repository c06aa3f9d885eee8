/- Single operations of the evaluator: variables. -/
import Derived.Test.YtlchefdddgbohaaDoorEvM
noncomputable section
namespace Go.Ev
open Go.RowKit
set_option linter.unusedVariables false
set_option linter.unusedSimpArgs false
section
variable {P : Program} {ty : Ty} {sz : Nat → Nat} {w0 : World} {Φ : Fx} {R : Rn} {w : World} {h : Hp}
theorem newCell (hh : HR sz w0 Φ R w h) {l : List Value} {cur : Array Value} (hl : A2 (SR R) l cur.toList) {e i : Nat} {h' : Hp} (hn : newA h (.row ⟨l, e, false⟩) = some (i, h')) :
    ∃ R', Ext R R' ∧ HR sz w0 Φ R' (w.alloc (.cells cur e)) h' ∧ R'.D i ∧ R'.ρ i = w.heap.size := by
  obtain ⟨hi, hr⟩ := hh.new (w' := w.alloc (.cells cur e)) (g := w.heap.size) (k := 0) (cur := cur) (hh.stayAlloc _) hh.young (fun i c hc => Nat.ne_of_lt (hh.old hc)) (show (w.heap.push _)[w.heap.size]? = _ by simp)
    (fun i c hc => Below.heap_alloc _ _ _ (hh.old hc)) (fun j v hv => by rw [← Array.getElem?_toList]; exact hl.2 j v hv) (fun _ => by have := hl.1; simpa using this.symm) (fun hx => by cases hx) hn
  exact ⟨_, hh.add_ext _ _, hr, hi ▸ .inr rfl, if_pos hi⟩
theorem ptr_new (hh : HR sz w0 Φ R w h) {i g : Nat} (hD : R.D i) (hρ : R.ρ i = g) : VR R (.pointer (some ⟨i, 0, none⟩)) (.pointer (some ⟨g, 0, none⟩)) := by
  have := SR.ptr (R := R) ⟨i, 0, none⟩ rfl (.inl hD)
  have e : ra R ⟨i, 0, none⟩ = ⟨g, 0, none⟩ := by unfold ra; rw [rb_of hh hD, hρ]
  rw [e] at this
  exact .inl (.inl this)
theorem sl_new (hh : HR sz w0 Φ R w h) {i g : Nat} (hD : R.D i) (hρ : R.ρ i = g) (n c : Nat) (hc : c < many) : VR R (.slice (some ⟨i, 0, none⟩) n c) (.slice (some ⟨g, 0, none⟩) n c) := by
  have := SR.sl (R := R) ⟨i, 0, none⟩ n c rfl (.inl hD) hc
  have e : ra R ⟨i, 0, none⟩ = ⟨g, 0, none⟩ := by unfold ra; rw [rb_of hh hD, hρ]
  rw [e] at this
  exact .inl (.inl this)
theorem A2.lits : ∀ {l : List Value}, l.all lit = true → A2 (SR R) l l := fun {l} hl =>
  ⟨rfl, fun i v hv => ⟨v, hv, .lit v (List.all_eq_true.1 hl v (List.mem_of_getElem? hv))⟩⟩
theorem cellsOf_cells {v : Value} {l : List Value} (h : cellsOf v = some l) : v.cells.toList = l := by
  cases v <;> first | (cases h; rfl; done) | (cases h; done)

def o_load (ty : Ty) (h : Hp) (t : Nat) (x : Value) : Option Value :=
  match x with
  | .pointer (some a) => match isAg ty t with
    | some true => match size ty t with
      | some n => match ldA h a n with
        | some l => some (.agg l.toArray)
        | none => none
      | none => none
    | some false => match ldA h a 1 with
      | some [v] => some v
      | _ => none
    | none => none
  | _ => none
theorem o_load_run (T : TyOK P ty) (hh : HR sz w0 Φ R w h) {t : Nat} {x x' v : Value} (hx : VR R x x') (ho : o_load ty h t x = some v) : ∃ v', VR R v v' ∧ (Instr.loadAt t x').run P w = .ok v' w := by
  unfold o_load at ho
  split at ho
  · rename_i a
    obtain ⟨rfl, hs, hb⟩ := hx.ptr
    split at ho
    · rename_i hag
      cases hz : size ty t with
      | none => rw [hz] at ho; cases ho
      | some n =>
        rw [hz] at ho
        dsimp only at ho
        cases hl : ldA h a n with
        | none => rw [hl] at ho; cases ho
        | some l =>
          rw [hl] at ho
          cases ho
          obtain ⟨l', h1, h2, h3⟩ := ldA_is hh hs hl
          refine ⟨_, .inl (.inr ⟨l.toArray, l'.toArray, rfl, rfl, h1⟩), ?_⟩
          have := run_loadCells_list (P := P) w (ra R a) l' h3
          rw [h2] at this
          simp [Instr.loadAt, Instr.sureAddr, loadVar, isAg_is T w hag, size_is T w hz, this]
    · rename_i hag
      split at ho
      · rename_i u hl
        cases ho
        obtain ⟨l', h1, h2, h3⟩ := ldA_is hh hs hl
        obtain ⟨u', h4, h5⟩ := h1.2 0 _ rfl
        have h6 := h3 0 _ h4
        rw [ra_add, Nat.add_zero] at h6
        refine ⟨_, .inl (.inl h5), ?_⟩
        simp [Instr.loadAt, Instr.sureAddr, loadVar, isAg_is T w hag, h6]
        rw [show ra R a = ra R ⟨a.block, a.off, none⟩ from rfl, h6]
      · cases ho
    · cases ho
  · cases ho
theorem o_load_is (T : TyOK P ty) (hh : HR sz w0 Φ R w h) {t : Nat} {x x' v : Value} (hx : VR R x x') (ho : o_load ty h t x = some v) : Ok0 P R w v (Instr.loadAt t x') := by
  obtain ⟨v', h1, h2⟩ := o_load_run (P := P) T hh hx ho
  exact .same hh h1 h2
def o_store (ty : Ty) (h : Hp) (t : Nat) (x v : Value) : Option Hp :=
  match x, size ty t, cellsOf v with
  | .pointer (some a), some n, some l => bif Nat.beq l.length n then stA h a l else none
  | _, _, _ => none
theorem o_store_is (T : TyOK P ty) (hh : HR sz w0 Φ R w h) {t : Nat} {x x' v v' : Value} (hx : VR R x x') (hv : VR R v v') {h' : Hp} (ho : o_store ty h t x v = some h') :
    ∃ w', HR sz w0 Φ R w' h' ∧ (Instr.storeAt t x' v').run P w = .ok () w' := by
  unfold o_store at ho
  split at ho
  · rename_i a n l hz hc
    obtain ⟨rfl, hs, hb⟩ := hx.ptr
    cases hn : Nat.beq l.length n with
    | false => rw [hn] at ho; cases ho
    | true =>
      rw [hn] at ho
      have hc' := cellsOf_is hv hc
      obtain ⟨w', h1, h2⟩ := stA_is (P := P) hh hs hc' ho
      have hlen : v'.cells.size = n := by have := hc'.1; have := Nat.eq_of_beq_eq_true hn; simp at *; omega
      refine ⟨w', h1, ?_⟩
      simp [Instr.storeAt, Instr.sureAddr, storeVar, size_is T w hz, hlen, h2]
  · cases ho
def o_alloc (ty : Ty) (h : Hp) (e : Nat) : Option (Value × Hp) :=
  match zero ty e with
  | some z => match cellsOf z with
    | some l => bif l.all lit then match newA h (.row ⟨l, e, false⟩) with
        | some (i, h') => some (.pointer (some ⟨i, 0, none⟩), h')
        | none => none
      else none
    | none => none
  | none => none
theorem o_alloc_is (T : TyOK P ty) (hh : HR sz w0 Φ R w h) {e : Nat} {v : Value} {h' : Hp} (ho : o_alloc ty h e = some (v, h')) : Ok P sz w0 Φ R w h' v (Instr.alloc e true (.tuple #[])) := by
  unfold o_alloc at ho
  cases hz : zero ty e with
  | none => rw [hz] at ho; cases ho
  | some z =>
    rw [hz] at ho
    dsimp only at ho
    cases hc : cellsOf z with
    | none => rw [hc] at ho; cases ho
    | some l =>
      rw [hc] at ho
      dsimp only at ho
      cases hl : l.all lit with
      | false => rw [hl] at ho; cases ho
      | true =>
        rw [hl] at ho
        dsimp only [cond_true] at ho
        cases hn : newA h (.row ⟨l, e, false⟩) with
        | none => rw [hn] at ho; cases ho
        | some p =>
          obtain ⟨i, h1⟩ := p
          rw [hn] at ho
          cases ho
          have hcz := cellsOf_cells hc
          obtain ⟨R', h2, h3, h4, h5⟩ := newCell hh (cur := z.cells) (by rw [hcz]; exact A2.lits hl) hn
          refine ⟨R', _, _, h2, h3, ptr_new h3 h4 h5, ?_⟩
          simp [Instr.alloc, zero_is T w hz, newVar, newRow, ra, h5]
def o_box (h : Hp) (e : Nat) (x : Value) : Option (Value × Hp) :=
  match cellsOf x with
  | some l => match newA h (.row ⟨l, e, false⟩) with
    | some (i, h') => some (.pointer (some ⟨i, 0, none⟩), h')
    | none => none
  | none => none
theorem o_box_is (hh : HR sz w0 Φ R w h) {e : Nat} {x x' v : Value} (hx : VR R x x') {h' : Hp} (ho : o_box h e x = some (v, h')) : Ok P sz w0 Φ R w h' v (Instr.box e x') := by
  unfold o_box at ho
  cases hc : cellsOf x with
  | none => rw [hc] at ho; cases ho
  | some l =>
    rw [hc] at ho
    dsimp only at ho
    cases hn : newA h (.row ⟨l, e, false⟩) with
    | none => rw [hn] at ho; cases ho
    | some p =>
      obtain ⟨i, h1⟩ := p
      rw [hn] at ho
      cases ho
      obtain ⟨R', h2, h3, h4, h5⟩ := newCell hh (cur := x'.cells) (cellsOf_is hx hc) hn
      refine ⟨R', _, _, h2, h3, ptr_new h3 h4 h5, ?_⟩
      simp [Instr.box, newVar, newRow, ra, h5]
end
end Go.Ev
