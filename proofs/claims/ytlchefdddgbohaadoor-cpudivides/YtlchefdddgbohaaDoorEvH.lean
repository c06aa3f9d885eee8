/- Heaps over names: how they change. -/
import Derived.Test.YtlchefdddgbohaaDoorEvR
import Derived.Laws.World
import Derived.Laws.CopyRow
noncomputable section
namespace Go.Ev
open Go.RowKit
set_option linter.unusedVariables false
section
variable {sz : Nat → Nat} {w0 : World} {Φ : Fx} {R : Rn} {w : World} {h : Hp}
theorem HR.row (hh : HR sz w0 Φ R w h) {i : Nat} {b : Blk} (hb : h.heap.get i = some (.row b)) : R.D i ∧ ¬ Φ (R.ρ i) ∧ ∃ cur, w.heap[R.ρ i]? = some (.cells cur b.elem (0, 0)) ∧ (∀ (j : Nat) (v : Value), b.cells[j]? = some v → ∃ v', cur[j]? = some v' ∧ SR R v v') ∧
    (b.grow = false → cur.size = b.cells.length) ∧ (b.grow = true → R.κ i ≤ maxLen ∧ cur.size = R.κ i * sz b.elem) := by
  obtain ⟨h1, h2, o, h3, cur, rfl, h4⟩ := hh.blk i _ hb
  exact ⟨h1, h2, cur, h3, h4⟩
theorem HR.map (hh : HR sz w0 Φ R w h) {i : Nat} {es : List (Value × Value × Nat)} {ck : Nat} (hb : h.heap.get i = some (.map es ck)) : R.D i ∧ ¬ Φ (R.ρ i) ∧ ∃ es', w.heap[R.ρ i]? = some (.map es' ck) ∧ ER R es es'.toList := by
  obtain ⟨h1, h2, o, h3, es', rfl, h4⟩ := hh.blk i _ hb
  exact ⟨h1, h2, es', h3, h4⟩
theorem HR.old (hh : HR sz w0 Φ R w h) {i : Nat} {c : Ob} (hc : h.heap.get i = some c) : R.ρ i < w.heap.size := by
  obtain ⟨_, _, o, h3, _⟩ := hh.blk i c hc
  exact (Array.getElem?_eq_some_iff.1 h3).1
theorem HR.lt (hh : HR sz w0 Φ R w h) {i : Nat} {c : Ob} (hc : h.heap.get i = some c) : i < R.N := hh.dom i (hh.blk i c hc).1
theorem HR.young (hh : HR sz w0 Φ R w h) : ¬ Φ w.heap.size := fun hk => by
  have h1 := hh.frm _ hk
  have h2 := hh.bel.size
  omega
theorem HR.stay (hh : HR sz w0 Φ R w h) {k : Nat} (hk : Φ k) : k < w.heap.size := Nat.lt_of_lt_of_le (hh.frm k hk) hh.bel.size
theorem HR.stayAlloc (hh : HR sz w0 Φ R w h) (o : Obj) : Stay Φ w (w.alloc o) :=
  ⟨rfl, rfl, rfl, by simp, fun k hk => Below.heap_alloc _ _ _ (hh.stay hk)⟩
theorem HR.stayGrown (hh : HR sz w0 Φ R w h) {w' : World} {row : Option Nat} (hg : w.grownBy w' row) (hr : ∀ k, row = some k → ¬ Φ k) : Stay Φ w w' :=
  ⟨hg.os, hg.tape, hg.output, hg.size, fun k hk => hg.block k (hh.stay hk) (fun e => hr k e.symm hk)⟩
/-- a name's place is written -/
theorem HR.set (hh : HR sz w0 Φ R w h) {i : Nat} {b0 b : Ob} {o : Obj} {w' : World} (hb : h.heap.get i = some b0) (hs : Stay Φ w w') (hw : ∀ k, k ≠ R.ρ i → k < w.heap.size → w'.heap[k]? = w.heap[k]?) (ho : w'.heap[R.ρ i]? = some o)
    (hor : OR sz R i b o) : HR sz w0 Φ R w' ⟨h.heap.put 40 i b, h.next, h.tab⟩ := by
  have hsm := hh.small
  have hiN := hh.lt hb
  have hget : ∀ j, (h.heap.put 40 i b).get j = if j = i then some b else h.heap.get j := fun j => Tr.get_put 40 _ _ _ j (by omega)
  have ex : ∀ {j : Nat} {c : Ob}, (h.heap.put 40 i b).get j = some c → ∃ c', h.heap.get j = some c' := fun {j c} hx => by
    rw [hget] at hx
    by_cases e : j = i
    · exact ⟨b0, e ▸ hb⟩
    · rw [if_neg e] at hx; exact ⟨c, hx⟩
  refine ⟨hh.nx, hh.small, hh.bel.trans hs, hh.frm, hh.dom, fun j c hc => ?_, fun j k c d hc hd hij => ?_, hh.tabE, fun g l hl => ?_⟩
  · have hc0 := hc
    dsimp only at hc
    rw [hget] at hc
    by_cases e : j = i
    · rw [if_pos e] at hc
      cases hc
      subst e
      exact ⟨(hh.blk _ _ hb).1, (hh.blk _ _ hb).2.1, o, ho, hor⟩
    · rw [if_neg e] at hc
      obtain ⟨h1, h2, o2, h3, h4⟩ := hh.blk j c hc
      refine ⟨h1, h2, o2, ?_, h4⟩
      rw [hw _ (fun e' => e (hh.inj j i c b0 hc hb e')) (hh.old hc)]
      exact h3
  · obtain ⟨c', hc2⟩ := ex hc
    obtain ⟨d', hd2⟩ := ex hd
    exact hh.inj j k c' d' hc2 hd2 hij
  · obtain ⟨h1, cur, e, z, h2, h3⟩ := hh.tab g l hl
    exact ⟨h1, cur, e, z, by rw [hs.block g h1]; exact h2, h3⟩
/-- a name is given -/
def Rn.addAt (R : Rn) (i g k : Nat) : Rn := ⟨fun j => if j = i then g else R.ρ j, fun j => if j = i then k else R.κ j, fun j => R.D j ∨ j = i, R.N⟩
def Rn.bump (R : Rn) : Rn := ⟨R.ρ, R.κ, R.D, R.N + 1⟩
theorem Rn.bump_ext (R : Rn) : Ext R R.bump := ⟨⟨Nat.le_succ _, fun _ h => h, fun _ _ => rfl, fun _ _ => rfl⟩, fun _ h _ => h⟩
theorem Rn.addAt_ext {R : Rn} {i : Nat} (hi : ¬ R.D i) (g k : Nat) : Ext0 R (R.addAt i g k) :=
  ⟨Nat.le_refl _, fun j hj => .inl hj, fun j hj => if_neg (fun (e : j = i) => hi (e ▸ hj)), fun j hj => if_neg (fun (e : j = i) => hi (e ▸ hj))⟩
theorem HR.bump (hh : HR sz w0 Φ R w h) (hN : h.next < 500000000) : HR sz w0 Φ R.bump w ⟨h.heap, h.next + 1, h.tab⟩ := by
  have hnx := hh.nx
  have e : Ext R R.bump := R.bump_ext
  refine ⟨by show h.next + 1 = R.N + 1; omega, by show R.N + 1 < _; omega, hh.bel, hh.frm, fun i hi => Nat.lt_succ_of_lt (hh.dom i hi), fun i b hb => ?_, hh.inj, hh.tabE, fun g l hl => ?_⟩
  · obtain ⟨h1, h2, o, h3, h4⟩ := hh.blk i b hb
    exact ⟨h1, h2, o, h3, h4.ext e h1⟩
  · obtain ⟨h1, cur, e', z, h2, h3⟩ := hh.tab g l hl
    exact ⟨h1, cur, e', z, h2, h3.mono fun _ _ h => h.ext e⟩
theorem HR.addAt (hh : HR sz w0 Φ R w h) {i g k : Nat} {b : Ob} {o : Obj} {w' : World} (hi : i < R.N) (hD : ¬ R.D i) (hs : Stay Φ w w') (hg0 : ¬ Φ g) (hg : ∀ j c, h.heap.get j = some c → R.ρ j ≠ g)
    (hk : ∀ j c, h.heap.get j = some c → w'.heap[R.ρ j]? = w.heap[R.ρ j]?) (ho : w'.heap[g]? = some o) (hor : OR sz (R.addAt i g k) i b o) : HR sz w0 Φ (R.addAt i g k) w' ⟨h.heap.put 40 i b, h.next, h.tab⟩ := by
  have hsm := hh.small
  have e := R.addAt_ext hD g k
  have hget : ∀ j, (h.heap.put 40 i b).get j = if j = i then some b else h.heap.get j := fun j => Tr.get_put 40 _ _ _ j (by omega)
  have ρi : (R.addAt i g k).ρ i = g := if_pos rfl
  have ρj : ∀ j, j ≠ i → (R.addAt i g k).ρ j = R.ρ j := fun j hj => if_neg hj
  refine ⟨hh.nx, hh.small, hh.bel.trans hs, hh.frm, fun j hj => ?_, fun j c hc => ?_, fun j l c d hc hd hij => ?_, hh.tabE, fun g l hl => ?_⟩
  · rcases hj with hj | rfl
    · exact hh.dom j hj
    · exact hi
  · dsimp only at hc
    rw [hget] at hc
    by_cases ej : j = i
    · rw [if_pos ej] at hc
      cases hc
      subst ej
      rw [ρi]
      exact ⟨.inr rfl, hg0, o, ho, hor⟩
    · rw [if_neg ej] at hc
      obtain ⟨h1, h2, o2, h3, h4⟩ := hh.blk j c hc
      rw [ρj j ej]
      exact ⟨.inl h1, h2, o2, by rw [hk j c hc]; exact h3, h4.ext e h1⟩
  · dsimp only at hc hd
    rw [hget] at hc hd
    by_cases ej : j = i
    · by_cases el : l = i
      · rw [ej, el]
      · rw [if_neg el] at hd
        rw [ej, ρi, ρj l el] at hij
        exact absurd hij.symm (hg l d hd)
    · rw [if_neg ej] at hc
      by_cases el : l = i
      · rw [el, ρi, ρj j ej] at hij
        exact absurd hij (hg j c hc)
      · rw [if_neg el] at hd
        rw [ρj j ej, ρj l el] at hij
        exact hh.inj j l c d hc hd hij
  · obtain ⟨h1, cur, e', z, h2, h3⟩ := hh.tab g l hl
    exact ⟨h1, cur, e', z, by rw [hs.block g h1]; exact h2, h3.mono fun _ _ h => h.ext e⟩
/-- a place that has its name already is taken in -/
theorem HR.putAt (hh : HR sz w0 Φ R w h) {i : Nat} {b : Ob} {o : Obj} (hD : R.D i) (hg0 : ¬ Φ (R.ρ i)) (hg : ∀ j c, h.heap.get j = some c → j ≠ i → R.ρ j ≠ R.ρ i) (ho : w.heap[R.ρ i]? = some o) (hor : OR sz R i b o) :
    HR sz w0 Φ R w ⟨h.heap.put 40 i b, h.next, h.tab⟩ := by
  have hsm := hh.small
  have hi := hh.dom i hD
  have hget : ∀ j, (h.heap.put 40 i b).get j = if j = i then some b else h.heap.get j := fun j => Tr.get_put 40 _ _ _ j (by omega)
  refine ⟨hh.nx, hh.small, hh.bel, hh.frm, hh.dom, fun j c hc => ?_, fun j l c d hc hd hij => ?_, hh.tabE, hh.tab⟩
  · dsimp only at hc
    rw [hget] at hc
    by_cases ej : j = i
    · rw [if_pos ej] at hc
      cases hc
      subst ej
      exact ⟨hD, hg0, o, ho, hor⟩
    · rw [if_neg ej] at hc
      exact hh.blk j c hc
  · dsimp only at hc hd
    rw [hget] at hc hd
    by_cases ej : j = i
    · by_cases el : l = i
      · rw [ej, el]
      · rw [if_neg el] at hd
        rw [ej] at hij
        exact absurd hij.symm (hg l d hd el)
    · rw [if_neg ej] at hc
      by_cases el : l = i
      · rw [el] at hij
        exact absurd hij (hg j c hc ej)
      · rw [if_neg el] at hd
        exact hh.inj j l c d hc hd hij
/-- one name less -/
theorem HR.del (hh : HR sz w0 Φ R w h) (k : Nat) : HR sz w0 Φ R w ⟨h.heap.del k, h.next, h.tab⟩ := by
  have get : ∀ {i : Nat} {c : Ob}, (h.heap.del k).get i = some c → h.heap.get i = some c ∧ i ≠ k := fun {i c} hx => by
    rw [Tr.get_del] at hx
    by_cases e : i = k
    · rw [if_pos e] at hx; cases hx
    · rw [if_neg e] at hx; exact ⟨hx, e⟩
  exact ⟨hh.nx, hh.small, hh.bel, hh.frm, hh.dom, fun i c hc => hh.blk i c (get hc).1, fun i j c d hc hd => hh.inj i j c d (get hc).1 (get hd).1, hh.tabE, hh.tab⟩
/-- the world moves on, and nothing named is touched -/
theorem HR.on (hh : HR sz w0 Φ R w h) {w' : World} (hs : Stay Φ w w') (hk : ∀ j c, h.heap.get j = some c → w'.heap[R.ρ j]? = w.heap[R.ρ j]?) : HR sz w0 Φ R w' h :=
  ⟨hh.nx, hh.small, hh.bel.trans hs, hh.frm, hh.dom, fun j c hc => by
    obtain ⟨h1, h2, o2, h3, h4⟩ := hh.blk j c hc
    exact ⟨h1, h2, o2, by rw [hk j c hc]; exact h3, h4⟩, hh.inj, hh.tabE, fun g l hl => by
    obtain ⟨h1, cur, e', z, h2, h3⟩ := hh.tab g l hl
    exact ⟨h1, cur, e', z, by rw [hs.block g h1]; exact h2, h3⟩⟩
theorem HR.fresh (hh : HR sz w0 Φ R w h) : ¬ R.D R.N := fun hd => Nat.lt_irrefl _ (hh.dom _ hd)
/-- a new name -/
def newA (h : Hp) (b : Ob) : Option (Nat × Hp) := bif Nat.blt h.next 500000000 then some (h.next, ⟨h.heap.put 40 h.next b, h.next + 1, h.tab⟩) else none
def Rn.add (R : Rn) (g k : Nat) : Rn := R.bump.addAt R.N g k
theorem HR.add_ext (hh : HR sz w0 Φ R w h) (g k : Nat) : Ext R (R.add g k) := ⟨R.bump_ext.toExt0.trans (Rn.addAt_ext (R := R.bump) hh.fresh g k), fun i hi hl => by
  rcases hi with hi | rfl
  · exact hi
  · exact absurd hl (Nat.lt_irrefl _)⟩
theorem HR.newO (hh : HR sz w0 Φ R w h) {w' : World} {g k : Nat} {b : Ob} {o : Obj} (hs : Stay Φ w w') (hg0 : ¬ Φ g) (hg : ∀ i c, h.heap.get i = some c → R.ρ i ≠ g) (hk : ∀ i c, h.heap.get i = some c → w'.heap[R.ρ i]? = w.heap[R.ρ i]?)
    (ho : w'.heap[g]? = some o) (hor : OR sz (R.add g k) R.N b o) {i : Nat} {h' : Hp} (hn : newA h b = some (i, h')) : i = R.N ∧ HR sz w0 Φ (R.add g k) w' h' := by
  unfold newA at hn
  cases hl : Nat.blt h.next 500000000 with
  | false => rw [hl] at hn; cases hn
  | true =>
    rw [hl] at hn
    cases hn
    have hlt : h.next < 500000000 := by simpa [Nat.blt_eq] using hl
    have hnx := hh.nx
    refine ⟨hnx, ?_⟩
    have := (hh.bump hlt).addAt (i := R.N) (g := g) (k := k) (b := b) (o := o) (w' := w') (Nat.lt_succ_self _) hh.fresh hs hg0 hg hk ho hor
    dsimp only at this
    rw [hnx] at this ⊢
    exact this
theorem HR.new (hh : HR sz w0 Φ R w h) {w' : World} {g k : Nat} {b : Blk} {cur : Array Value} (hs : Stay Φ w w') (hg0 : ¬ Φ g) (hg : ∀ i c, h.heap.get i = some c → R.ρ i ≠ g) (hc : w'.heap[g]? = some (.cells cur b.elem (0, 0)))
    (hk : ∀ i c, h.heap.get i = some c → w'.heap[R.ρ i]? = w.heap[R.ρ i]?) (hcs : ∀ (j : Nat) (v : Value), b.cells[j]? = some v → ∃ v', cur[j]? = some v' ∧ SR R v v') (h1 : b.grow = false → cur.size = b.cells.length)
    (h2 : b.grow = true → k ≤ maxLen ∧ cur.size = k * sz b.elem) {i : Nat} {h' : Hp} (hn : newA h (.row b) = some (i, h')) : i = R.N ∧ HR sz w0 Φ (R.add g k) w' h' := by
  refine hh.newO (b := .row b) hs hg0 hg hk hc (show OR sz (R.add g k) R.N (.row b) (.cells cur b.elem (0, 0)) from ⟨cur, rfl, fun j v hv => ?_, h1, fun hgr => ?_⟩) hn
  · obtain ⟨v', h3, h4⟩ := hcs j v hv
    exact ⟨v', h3, h4.ext (hh.add_ext g k)⟩
  · have e : (R.add g k).κ R.N = k := if_pos rfl
    rw [e]
    exact h2 hgr
end
end Go.Ev
