/- Single operations of the evaluator: memory. -/
import Derived.Test.YtlchefdddgbohaaDoorEvO
import Derived.Laws.CopyRow
import Derived.Laws.World
noncomputable section
namespace Go.Ev
open Go.RowKit
set_option linter.unusedVariables false
set_option linter.unusedSimpArgs false

def cutL (l : List Value) (o n : Nat) : Option (List Value) := bif Nat.beq ((l.drop o).take n).length n then some ((l.drop o).take n) else none
def ldA (h : Hp) (a : Addr) (n : Nat) : Option (List Value) :=
  match h.heap.get a.block with
  | some (.row b) => cutL b.cells a.off n
  | some _ => none
  | none => bif Nat.blt many a.block then match h.tab.get (a.block - (many + 1)) with
    | some l => cutL l a.off n
    | none => none
    else none
def stA (h : Hp) (a : Addr) (vs : List Value) : Option Hp :=
  match h.heap.get a.block with
  | some (.row b) => bif Nat.ble (a.off + vs.length) b.cells.length then some ⟨h.heap.put 40 a.block (.row ⟨b.cells.take a.off ++ vs ++ b.cells.drop (a.off + vs.length), b.elem, b.grow⟩), h.next, h.tab⟩ else none
  | _ => none
def cellsOf : Value → Option (List Value)
  | .agg a => some a.toList
  | .tuple _ => none
  | v => some [v]

theorem SR.one {R : Rn} {v v' : Value} (h : SR R v v') : v'.oneCell' = true := by
  cases h with
  | lit v hl => cases v <;> first | rfl | (cases hl; done)
  | ptr _ _ _ => rfl
  | sl _ _ _ _ _ _ => rfl
  | slg _ _ _ _ _ _ _ _ => rfl
  | sle _ _ => rfl
  | mp _ _ => rfl
  | yl _ _ => rfl
  | fn _ _ _ _ _ _ _ => rfl
theorem SR.src {R : Rn} {v v' : Value} (h : SR R v v') : v.oneCell' = true := by
  cases h with
  | lit v hl => cases v <;> first | rfl | (cases hl; done)
  | ptr _ _ _ => rfl
  | sl _ _ _ _ _ _ => rfl
  | slg _ _ _ _ _ _ _ _ => rfl
  | sle _ _ => rfl
  | mp _ _ => rfl
  | yl _ _ => rfl
  | fn _ _ _ _ _ _ _ => rfl
theorem A2.single {r : Value → Value → Prop} {v v' : Value} (h : r v v') : A2 r [v] [v'] :=
  ⟨rfl, fun i x hx => by cases i with
    | zero => cases hx; exact ⟨v', rfl, h⟩
    | succ i => cases hx⟩
theorem cellsOf_is {R : Rn} {v v' : Value} {l : List Value} (hv : VR R v v') (h : cellsOf v = some l) : A2 (SR R) l v'.cells.toList := by
  rcases hv with (hs | ⟨cs, cs', rfl, rfl, h3⟩) | ⟨_, _, rfl, _, _⟩
  · have h1 := hs.one
    have h0 := hs.src
    have e : cellsOf v = some [v] := by cases v <;> first | rfl | (cases h0; done)
    have e' : v'.cells = #[v'] := by cases v' <;> first | rfl | (cases h1; done)
    rw [e] at h
    cases h
    rw [e']
    exact .single hs
  · cases h
    exact h3
  · cases h
theorem A2.one {R : Rn} {l l' : List Value} (h : A2 (SR R) l l') : ∀ v ∈ l', v.oneCell' = true := by
  intro v hv
  obtain ⟨i, hi⟩ := List.mem_iff_getElem?.1 hv
  have hlt : i < l'.length := (List.getElem?_eq_some_iff.1 hi).1
  obtain ⟨v', h1, h2⟩ := h.2 i _ (List.getElem?_eq_getElem (by rw [h.1]; exact hlt))
  rw [hi] at h1
  cases h1
  exact h2.one
theorem A2.get {r : Value → Value → Prop} {l l' : List Value} (h : A2 r l l') {i : Nat} {v v' : Value} (hv : l[i]? = some v) (hv' : l'[i]? = some v') : r v v' := by
  obtain ⟨x, h1, h2⟩ := h.2 i v hv
  rw [hv'] at h1
  cases h1
  exact h2

section
variable {P : Program} {sz : Nat → Nat} {w0 : World} {Φ : Fx} {R : Rn} {w : World} {h : Hp}
/-- what is read -/
theorem cutL_is {cells : List Value} {cur : Array Value} (hcs : ∀ (j : Nat) (v : Value), cells[j]? = some v → ∃ v', cur[j]? = some v' ∧ SR R v v') {o n : Nat} {l : List Value} (hl : cutL cells o n = some l) :
    ∃ l', A2 (SR R) l l' ∧ l'.length = n ∧ ∀ (j : Nat) (v : Value), l'[j]? = some v → cur[o + j]? = some v := by
  unfold cutL at hl
  cases hn : Nat.beq ((cells.drop o).take n).length n with
  | false => rw [hn] at hl; cases hl
  | true =>
    rw [hn] at hl
    cases hl
    have hlen := Nat.eq_of_beq_eq_true hn
    have at' : ∀ (j : Nat) (v : Value), ((cells.drop o).take n)[j]? = some v → cells[o + j]? = some v ∧ j < n := fun j v hv => by
      have hj : j < n := by have := (List.getElem?_eq_some_iff.1 hv).1; omega
      rw [List.getElem?_take, if_pos hj, List.getElem?_drop] at hv
      exact ⟨hv, hj⟩
    have hsz : ((cur.toList.drop o).take n).length = n := by
      rcases Nat.eq_zero_or_pos n with h0 | h0
      · subst h0; simp
      · have hl1 : n - 1 < ((cells.drop o).take n).length := by omega
        obtain ⟨v', hv', _⟩ := hcs _ _ (at' _ _ (List.getElem?_eq_getElem hl1)).1
        have := (Array.getElem?_eq_some_iff.1 hv').1
        simp only [List.length_take, List.length_drop, Array.length_toList]
        omega
    refine ⟨(cur.toList.drop o).take n, ⟨by rw [hlen, hsz], fun j v hv => ?_⟩, hsz, fun j v hv => ?_⟩
    · obtain ⟨h1, h2⟩ := at' j v hv
      obtain ⟨v', hv', hr⟩ := hcs _ _ h1
      refine ⟨v', ?_, hr⟩
      rw [List.getElem?_take, if_pos h2, List.getElem?_drop, Array.getElem?_toList]
      exact hv'
    · have hj : j < n := by have := (List.getElem?_eq_some_iff.1 hv).1; omega
      rw [List.getElem?_take, if_pos hj, List.getElem?_drop, Array.getElem?_toList] at hv
      exact hv
theorem HR.small_of (hh : HR sz w0 Φ R w h) {i : Nat} (hi : R.D i) : i < many := by
  have h1 := hh.dom i hi
  have h2 := hh.small
  have h3 : many = 36893488147419103232 := rfl
  omega
theorem rb_of (hh : HR sz w0 Φ R w h) {i : Nat} (hi : R.D i) : rb R i = R.ρ i := if_neg (by have := hh.small_of hi; omega)
theorem ldA_is (hh : HR sz w0 Φ R w h) {a : Addr} (ha : a.spot = none) {n : Nat} {l : List Value} (hl : ldA h a n = some l) :
    ∃ l', A2 (SR R) l l' ∧ l'.length = n ∧ ∀ (j : Nat) (v : Value), l'[j]? = some v → w.cell? ((ra R a).add j) = some v := by
  unfold ldA at hl
  split at hl
  · rename_i b hb
    obtain ⟨hD, _, cur, hc, hcs, _, _⟩ := hh.row hb
    obtain ⟨l', h1, h2, h3⟩ := cutL_is hcs hl
    refine ⟨l', h1, h2, fun j v hv => ?_⟩
    rw [ra_add]
    simp [World.cell?, ra, rb_of hh hD, hc, h3 j v hv]
  · cases hl
  · cases hm : Nat.blt many a.block with
    | false => rw [hm] at hl; cases hl
    | true =>
      rw [hm] at hl
      dsimp only [cond_true] at hl
      rw [Nat.blt_eq] at hm
      split at hl
      · rename_i l0 hb
        obtain ⟨_, cur, e, z, hc, hcs⟩ := hh.tab _ _ hb
        obtain ⟨l', h1, h2, h3⟩ := cutL_is (cur := cur) (fun j v hv => by rw [← Array.getElem?_toList]; exact hcs.2 j v hv) hl
        refine ⟨l', h1, h2, fun j v hv => ?_⟩
        rw [ra_add]
        have e2 : rb R a.block = a.block - (many + 1) := if_pos hm
        simp [World.cell?, ra, e2, hc, h3 j v hv]
      · cases hl
/-- a cell that is written -/
theorem stA_is (hh : HR sz w0 Φ R w h) {a : Addr} (ha : a.spot = none) {vs vs' : List Value} (hv : A2 (SR R) vs vs') {h' : Hp} (hs : stA h a vs = some h') :
    ∃ w', HR sz w0 Φ R w' h' ∧ (storeCells (ra R a) vs').run P w = .ok () w' := by
  unfold stA at hs
  split at hs
  · rename_i b hb
    cases hn : Nat.ble (a.off + vs.length) b.cells.length with
    | false => rw [hn] at hs; cases hs
    | true =>
      rw [hn] at hs
      cases hs
      have hlen := Nat.le_of_ble_eq_true hn
      obtain ⟨hiN, hlo, cur, hc, hcs, hg1, hg2⟩ := hh.row hb
      have hcl : b.cells.length ≤ cur.size := by
        rcases Nat.eq_zero_or_pos b.cells.length with h0 | h0
        · omega
        · have hl1 : b.cells.length - 1 < b.cells.length := by omega
          obtain ⟨v', hv', _⟩ := hcs _ _ (List.getElem?_eq_getElem hl1)
          have := (Array.getElem?_eq_some_iff.1 hv').1
          omega
      have hvl := hv.1
      have hst := run_storeCells_at P (R.ρ a.block) a.off b.elem vs' 0 cur w hc (by omega) hv.one
      have era : ra R a = ⟨R.ρ a.block, a.off, none⟩ := by unfold ra; rw [rb_of hh hiN]
      rw [era]
      refine ⟨_, ?_, hst⟩
      generalize hcur' : (cur.toList.take (a.off + 0) ++ vs' ++ cur.toList.drop (a.off + 0 + vs'.length)).toArray = cur'
      have hsz : cur'.size = cur.size := by
        rw [← hcur']
        simp
        omega
      have hat : ∀ j, cur'[j]? = if j < a.off then cur[j]? else if j < a.off + vs.length then vs'[j - a.off]? else cur[j]? := fun j => by
        rw [← hcur']
        simp only [List.getElem?_toArray, List.getElem?_append, List.length_append, List.length_take, Array.length_toList, Nat.add_zero]
        rw [show min a.off cur.size = a.off by omega]
        by_cases h1 : j < a.off
        · have h3 : j < a.off + vs'.length := by omega
          simp only [h1, h3, if_true, List.getElem?_take, Array.getElem?_toList]
        · by_cases h2 : j < a.off + vs.length
          · have h3 : j < a.off + vs'.length := by omega
            simp only [h1, h2, h3, if_true, if_false]
          · have h3 : ¬ j < a.off + vs'.length := by omega
            simp only [h1, h2, h3, if_false, List.getElem?_drop, Array.getElem?_toList]
            rw [show a.off + vs'.length + (j - (a.off + vs'.length)) = j by omega]
      have hbt : ∀ j, (b.cells.take a.off ++ vs ++ b.cells.drop (a.off + vs.length))[j]? = if j < a.off then b.cells[j]? else if j < a.off + vs.length then vs[j - a.off]? else b.cells[j]? := fun j => by
        simp only [List.getElem?_append, List.length_append, List.length_take]
        rw [show min a.off b.cells.length = a.off by omega]
        by_cases h1 : j < a.off
        · have h3 : j < a.off + vs.length := by omega
          simp only [h1, h3, if_true, List.getElem?_take]
        · by_cases h2 : j < a.off + vs.length
          · simp only [h1, h2, if_true, if_false]
          · simp only [h1, h2, if_false, List.getElem?_drop]
            rw [show a.off + vs.length + (j - (a.off + vs.length)) = j by omega]
      have hbl : (b.cells.take a.off ++ vs ++ b.cells.drop (a.off + vs.length)).length = b.cells.length := by simp; omega
      refine hh.set (b := .row ⟨b.cells.take a.off ++ vs ++ b.cells.drop (a.off + vs.length), b.elem, b.grow⟩) (o := .cells cur' b.elem (0, 0)) hb ⟨rfl, rfl, rfl, by simp, fun k hk => setRow_other _ _ _ _ (fun e => hlo (e ▸ hk))⟩ (fun k hk _ => setRow_other _ _ _ _ hk) (setRow_heap _ _ _ _ _ _ hc) ⟨cur', rfl, fun j v hv' => ?_, fun hgr => ?_, fun hgr => ?_⟩
      · dsimp only at hv'
        rw [hbt] at hv'
        rw [hat]
        split
        · rename_i h1; rw [if_pos h1] at hv'; exact hcs j v hv'
        · rename_i h1
          rw [if_neg h1] at hv'
          split
          · rename_i h2; rw [if_pos h2] at hv'; exact hv.2 _ v hv'
          · rename_i h2; rw [if_neg h2] at hv'; exact hcs j v hv'
      · exact (hsz.trans (hg1 hgr)).trans hbl.symm
      · exact ⟨(hg2 hgr).1, hsz.trans (hg2 hgr).2⟩
  · cases hs
end
theorem A2.ext {R R' : Rn} {l l' : List Value} (h : A2 (SR R) l l') (e : Ext R R') : A2 (SR R') l l' := h.mono fun _ _ h => h.ext e
end Go.Ev
