/- A list of a Cpu grows. -/
import Derived.Test.YtlchefdddgbohaaDoorNw
import Derived.Test.YtlchefdddgbohaaDoorDr
namespace Go.Proofs.YtlchefdddgbohaaDoor
open Go.ChangeShapes Go.WideShapes Go.ChangeAt Go.RowKit
set_option linter.unusedVariables false
set_option linter.unusedSimpArgs false
set_option maxRecDepth 100000
section
variable {L : Lay} {ks : Nat → Prop} {w w1 : World} {p : Nat} {s : St}
theorem rowI_app (l : List Int) (x : Int) : rowI (l ++ [x]) = rowI l ++ [.int .i32 x] := by simp [rowI]
theorem in_mono {ks' : Nat → Prop} {v : Value} {l : List Int} (h : InAt ks w p v l) (hk : ∀ g, ks g → ks' g) : InAt ks' w p v l := by
  obtain ⟨a, c, e, hc, h⟩ := h
  exact ⟨a, c, e, hc, fun hl => by obtain ⟨g, o, e2, k1, k2⟩ := h hl; exact ⟨g, o, e2, hk _ k1, k2⟩⟩
theorem own_kept {v : Value} {n : Nat} {xs : List Value} {T : TypeId} {sz : Nat} {k : Option Nat} (h : w.ownsRow 0 T sz v n xs) (hg : w.grownBy w1 k) (hn : ∀ g, v.ownBlock = some g → k ≠ some g) : w1.ownsRow 0 T sz v n xs :=
  own_kept0 h fun g hgg => hg.block g (h.lt g hgg).2 (fun e => hn g hgg e.symm)
theorem in_kept {v : Value} {l : List Int} {k : Option Nat} (h : InAt ks w p v l) (hg : w.grownBy w1 k) (hn : ∀ g, v.ownBlock = some g → l ≠ [] → k ≠ some g) : InAt ks w1 p v l := by
  have h' := h
  obtain ⟨a, c, e, hc, hh⟩ := h'
  refine h.kept hg.size fun g hgg hl => hg.block g ?_ (fun e => hn g hgg hl e.symm)
  obtain ⟨g', o, e2, k1, k2, k3, _⟩ := hh hl
  subst e e2
  cases hgg
  exact k3
/-- what a list of its own becomes by an append, and where -/
theorem CpuAt.grow (h : CpuAt L ks w p s) {v vo : Value} {n : Nat} {xs : List Value} (ho : w.ownsRow 0 21 1 vo n xs) (hko : ∀ g, vo.ownBlock = some g → ks g ∧ g ≠ p) {n' : Nat} {xs' : List Value} (hn : w1.ownsRow 0 21 1 v n' xs') (hg : w.grownBy w1 vo.ownBlock) (hw : v.ownBlock = vo.ownBlock ∨ v.ownBlock = some w.heap.size) :
    (∃ cs vs vo va, w1.heap[p]? = some (.cells cs L.T (0, 0)) ∧ w.heap[p]? = some (.cells cs L.T (0, 0)) ∧ Cs L cs s vs vo va) ∧ (∀ g, v.ownBlock = some g → g ≠ p ∧ (ks g ∨ g = w.heap.size) ∧ g < w1.heap.size) := by
  obtain ⟨cs, vs, vo', va, h1, h2, h3, h4, h5, h6, h7⟩ := h.mem
  have hp : w1.heap[p]? = w.heap[p]? := hg.block p h.lt (fun e => (hko p e.symm).2 rfl)
  refine ⟨⟨cs, vs, vo', va, hp.trans h1, h1, h2⟩, fun g hgg => ?_⟩
  have hl := (hn.lt g hgg).2
  rcases hw with e | e
  · rw [hgg] at e
    exact ⟨(hko g e.symm).2, .inl (hko g e.symm).1, hl⟩
  · rw [hgg] at e
    cases e
    exact ⟨fun e => by have := h.lt; omega, .inr rfl, hl⟩
/-- a print -/
theorem CpuAt.out (ok : LayOK L) (h : CpuAt L ks w p s) {vo v : Value} {x : Int} (hx : -2147483648 ≤ x ∧ x ≤ 2147483647) (hvo : w.cell? ⟨p, L.oo, none⟩ = some vo)
    (hn : w1.ownsRow 0 21 1 v (s.out.length + 1) (rowI s.out ++ [.int .i32 x])) (hg : w.grownBy w1 vo.ownBlock) (hw : v.ownBlock = vo.ownBlock ∨ v.ownBlock = some w.heap.size) :
    w1.cell? ⟨p, L.oo, none⟩ = some vo ∧ w1.frozen? ⟨p, L.oo, none⟩ = false ∧ Moved ks w (w1.setCell ⟨p, L.oo, none⟩ v) ∧ ∃ ks', More ks ks' w ∧ CpuAt L ks' (w1.setCell ⟨p, L.oo, none⟩ v) p { s with out := s.out ++ [x] } := by
  obtain ⟨cs, vs, vo', va, h1, h2, h3, h4, h5, h6, h7⟩ := h.mem
  have e : vo' = vo := by
    have := (Joins.cell_of_block h1 L.oo).trans h2.ou
    rw [this] at hvo
    exact Option.some.inj hvo
  subst e
  have hko : ∀ g, vo'.ownBlock = some g → ks g ∧ g ≠ p := fun g hgg => ⟨(h7 g hgg).1, (h7 g hgg).2.1⟩
  obtain ⟨⟨cs', _, _, _, p1, p2, _⟩, hv⟩ := h.grow h4 hko hn hg hw
  have ec : cs' = cs := by rw [h1] at p2; cases p2; rfl
  subst ec
  obtain ⟨q1, q2⟩ := row_set p1 L.oo v
  have hsz : w.heap.size ≤ w1.heap.size := hg.size
  have hvs : ∀ g, vs.ownBlock = some g → vo'.ownBlock ≠ some g ∧ v.ownBlock ≠ some g := fun g hgg => ⟨(h6 g hgg).2.2.1, fun hh => by
    rcases hw with e | e
    · exact (h6 g hgg).2.2.1 (e ▸ hh)
    · rw [hh] at e; cases e; have := (h3.lt _ hgg).2; omega⟩
  have hva : ∀ g, va.ownBlock = some g → s.inp ≠ [] → vo'.ownBlock ≠ some g ∧ v.ownBlock ≠ some g ∧ g ≠ p := fun g hgg hl => by
    obtain ⟨a, c, e, hc, hh⟩ := h5
    obtain ⟨g', o, e2, k1, k2, k3, _⟩ := hh hl
    subst e e2
    cases hgg
    refine ⟨fun hh => (h7 _ hh).2.2 hl rfl, fun hh => ?_, k2⟩
    rcases hw with e | e
    · exact (h7 _ (e ▸ hh)).2.2 hl rfl
    · rw [hh] at e; have e' := Option.some.inj e; dsimp only at e'; omega
  refine ⟨(Joins.cell_of_block p1 _).trans h2.ou, frozen_of_row w1 p _ _ _ p1, ?_, fun g => ks g ∨ v.ownBlock = some g, ⟨fun g hg => .inl hg, fun g hg => hg.elim .inl fun hg => (hv g hg).2.1.imp id fun e => by omega⟩, ?_⟩
  · have hm1 := Moved.grown (Moved.refl ks w) hg (fun g e => (hko g e).1)
    exact hm1.grown q2 (fun g e => by cases e; exact h.kp)
  · refine { kp := .inl h.kp, kl := fun g hg => ?_, rb := h.rb, mb := h.mb, zb := h.zb, sb := h.sb, ob := fun y hy => ?_, ib := h.ib, mem := ⟨_, vs, v, va, q1, h2.setO ok _ v, ?_, ?_, ?_, ?_, ?_⟩ }
    · rcases hg with hg | hg
      · have := h.kl g hg; have := q2.size; omega
      · have := (hv g hg).2.2; have := q2.size; omega
    · rcases List.mem_append.1 hy with hy | hy
      · exact h.ob y hy
      · rw [List.mem_singleton.1 hy]; exact hx
    · exact own_kept (own_kept h3 hg fun g hgg => (hvs g hgg).1) q2 fun g hgg e => (h6 g hgg).2.1 (Option.some.inj e).symm
    · show World.ownsRow _ 0 21 1 v (s.out ++ [x]).length (rowI (s.out ++ [x]))
      rw [rowI_app, List.length_append, List.length_singleton]
      exact own_kept hn q2 fun g hgg e => (hv g hgg).1 (Option.some.inj e).symm
    · exact in_mono (in_kept (in_kept h5 hg fun g hgg hl => (hva g hgg hl).1) q2 fun g hgg hl e => (hva g hgg hl).2.2 (Option.some.inj e).symm) fun g hg => .inl hg
    · exact fun g hgg => ⟨.inl (h6 g hgg).1, (h6 g hgg).2.1, (hvs g hgg).2, (h6 g hgg).2.2.2⟩
    · exact fun g hgg => ⟨.inr hgg, (hv g hgg).1, fun hl hh => (hva g hh hl).2.1 hgg⟩
/-- a push -/
theorem CpuAt.push (ok : LayOK L) (h : CpuAt L ks w p s) {vo v : Value} {x : Int} (hx : -2147483648 ≤ x ∧ x ≤ 2147483647) (hvo : w.cell? ⟨p, L.so, none⟩ = some vo)
    (hn : w1.ownsRow 0 21 1 v (s.stk.length + 1) (rowI s.stk ++ [.int .i32 x])) (hg : w.grownBy w1 vo.ownBlock) (hw : v.ownBlock = vo.ownBlock ∨ v.ownBlock = some w.heap.size) :
    w1.cell? ⟨p, L.so, none⟩ = some vo ∧ w1.frozen? ⟨p, L.so, none⟩ = false ∧ Moved ks w (w1.setCell ⟨p, L.so, none⟩ v) ∧ ∃ ks', More ks ks' w ∧ CpuAt L ks' (w1.setCell ⟨p, L.so, none⟩ v) p { s with stk := s.stk ++ [x] } := by
  obtain ⟨cs, vs', vo', va, h1, h2, h3, h4, h5, h6, h7⟩ := h.mem
  have e : vs' = vo := by
    have := (Joins.cell_of_block h1 L.so).trans h2.st
    rw [this] at hvo
    exact Option.some.inj hvo
  subst e
  have hko : ∀ g, vs'.ownBlock = some g → ks g ∧ g ≠ p := fun g hgg => ⟨(h6 g hgg).1, (h6 g hgg).2.1⟩
  obtain ⟨⟨cs', _, _, _, p1, p2, _⟩, hv⟩ := h.grow h3 hko hn hg hw
  have ec : cs' = cs := by rw [h1] at p2; cases p2; rfl
  subst ec
  obtain ⟨q1, q2⟩ := row_set p1 L.so v
  have hsz : w.heap.size ≤ w1.heap.size := hg.size
  have hvs : ∀ g, vo'.ownBlock = some g → vs'.ownBlock ≠ some g ∧ v.ownBlock ≠ some g := fun g hgg => ⟨fun hh => (h6 g hh).2.2.1 hgg, fun hh => by
    rcases hw with e | e
    · exact (h6 g (e ▸ hh)).2.2.1 hgg
    · rw [hh] at e; cases e; have := (h4.lt _ hgg).2; omega⟩
  have hva : ∀ g, va.ownBlock = some g → s.inp ≠ [] → vs'.ownBlock ≠ some g ∧ v.ownBlock ≠ some g ∧ g ≠ p := fun g hgg hl => by
    obtain ⟨a, c, e, hc, hh⟩ := h5
    obtain ⟨g', o, e2, k1, k2, k3, _⟩ := hh hl
    subst e e2
    cases hgg
    refine ⟨fun hh => (h6 _ hh).2.2.2 hl rfl, fun hh => ?_, k2⟩
    rcases hw with e | e
    · exact (h6 _ (e ▸ hh)).2.2.2 hl rfl
    · rw [hh] at e; have e' := Option.some.inj e; dsimp only at e'; omega
  refine ⟨(Joins.cell_of_block p1 _).trans h2.st, frozen_of_row w1 p _ _ _ p1, ?_, fun g => ks g ∨ v.ownBlock = some g, ⟨fun g hg => .inl hg, fun g hg => hg.elim .inl fun hg => (hv g hg).2.1.imp id fun e => by omega⟩, ?_⟩
  · have hm1 := Moved.grown (Moved.refl ks w) hg (fun g e => (hko g e).1)
    exact hm1.grown q2 (fun g e => by cases e; exact h.kp)
  · refine { kp := .inl h.kp, kl := fun g hg => ?_, rb := h.rb, mb := h.mb, zb := h.zb, ob := h.ob, sb := fun y hy => ?_, ib := h.ib, mem := ⟨_, v, vo', va, q1, h2.setS ok _ v, ?_, ?_, ?_, ?_, ?_⟩ }
    · rcases hg with hg | hg
      · have := h.kl g hg; have := q2.size; omega
      · have := (hv g hg).2.2; have := q2.size; omega
    · rcases List.mem_append.1 hy with hy | hy
      · exact h.sb y hy
      · rw [List.mem_singleton.1 hy]; exact hx
    · show World.ownsRow _ 0 21 1 v (s.stk ++ [x]).length (rowI (s.stk ++ [x]))
      rw [rowI_app, List.length_append, List.length_singleton]
      exact own_kept hn q2 fun g hgg e => (hv g hgg).1 (Option.some.inj e).symm
    · exact own_kept (own_kept h4 hg fun g hgg => (hvs g hgg).1) q2 fun g hgg e => (h7 g hgg).2.1 (Option.some.inj e).symm
    · exact in_mono (in_kept (in_kept h5 hg fun g hgg hl => (hva g hgg hl).1) q2 fun g hgg hl e => (hva g hgg hl).2.2 (Option.some.inj e).symm) fun g hg => .inl hg
    · exact fun g hgg => ⟨.inr hgg, (hv g hgg).1, fun hh => (hvs g hh).2 hgg, fun hl hh => (hva g hh hl).2.1 hgg⟩
    · exact fun g hgg => ⟨.inl (h7 g hgg).1, (h7 g hgg).2.1, (h7 g hgg).2.2⟩
end
end Go.Proofs.YtlchefdddgbohaaDoor
