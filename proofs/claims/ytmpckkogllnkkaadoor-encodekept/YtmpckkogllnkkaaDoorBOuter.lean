/- A slice of slices of tokens that a book holds: how it is appended to, by one, and cut at its head. -/
import Derived.Test.YtmpckkogllnkkaaDoorAll1
import Derived.ArgAppend
import Derived.Laws.AppendOwnNone
import Derived.Deep.AppendLies
namespace Go.Proofs.YtmpckkogllnkkaaDoor
open Go.ChangeShapes Go.WideShapes Go.ChangeAt Go.RowKit
set_option linter.unusedVariables false

def blk (a : Option Addr) : Option Nat := a.map (·.block)

/-- the slice at a of capacity c holds just the values vs; it is nil, or it lies in a row of slices at block lo or behind it -/
def Outer (w : World) (lo : Nat) (a : Option Addr) (c : Nat) (vs : List Value) : Prop :=
  c ≤ maxLen ∧ ((a = none ∧ c = 0 ∧ vs = []) ∨
    ∃ G off cur, a = some ⟨G, off, none⟩ ∧ lo ≤ G ∧ w.heap[G]? = some (.cells cur 22 (0, 0)) ∧ off + c = cur.size ∧ vs.length ≤ c ∧ (cur.toList.drop off).take vs.length = vs)

theorem Tryd.info22 : (Tryd.prog.info? 22).map (fun i => (i.zero, i.size, i.bytes)) = some (some (.slice none 0 0), 1, 24) := by kernel_rfl

theorem Outer.cell {w : World} {lo : Nat} {a : Option Addr} {c : Nat} {vs : List Value} {G off : Nat} (h : Outer w lo (some ⟨G, off, none⟩) c vs) (i : Nat) (hi : i < vs.length) : w.cell? ⟨G, off + i, none⟩ = vs[i]? := by
  rcases h.2 with ⟨h1, _⟩ | ⟨G', off', cur, h1, _, hh, hs, hn, ht⟩
  · cases h1
  · simp only [Option.some.injEq, Addr.mk.injEq, and_true] at h1
    obtain ⟨rfl, rfl⟩ := h1
    rw [cell_of_row w G (off + i) cur 22 (0, 0) hh]
    conv => rhs; rw [← ht]
    rw [List.getElem?_take_of_lt hi, List.getElem?_drop]
    simp

theorem Outer.some_of {w : World} {lo : Nat} {a : Option Addr} {c : Nat} {vs : List Value} (h : Outer w lo a c vs) (hv : vs ≠ []) : ∃ G off, a = some ⟨G, off, none⟩ := by
  rcases h.2 with ⟨_, _, h⟩ | ⟨G, off, cur, h, _⟩
  · exact absurd h hv
  · exact ⟨G, off, h⟩
theorem Outer.len_le {w : World} {lo : Nat} {a : Option Addr} {c : Nat} {vs : List Value} (h : Outer w lo a c vs) : vs.length ≤ c := by
  rcases h.2 with ⟨_, _, rfl⟩ | ⟨G, off, cur, _, _, _, _, hn, _⟩
  · simp
  · exact hn
theorem Outer.lt {w : World} {lo : Nat} {a : Option Addr} {c : Nat} {vs : List Value} (h : Outer w lo a c vs) {g : Nat} (hg : blk a = some g) : lo ≤ g ∧ g < w.heap.size := by
  rcases h.2 with ⟨rfl, _⟩ | ⟨G, off, cur, rfl, hl, hh, _⟩
  · cases hg
  · simp [blk] at hg
    subst hg
    exact ⟨hl, (Array.getElem?_eq_some_iff.1 hh).1⟩
theorem Outer.kept {w w' : World} {lo : Nat} {a : Option Addr} {c : Nat} {vs : List Value} (h : Outer w lo a c vs) (hk : ∀ g, blk a = some g → w'.heap[g]? = w.heap[g]?) : Outer w' lo a c vs := by
  refine ⟨h.1, ?_⟩
  rcases h.2 with h | ⟨G, off, cur, rfl, hl, hh, hr⟩
  · exact .inl h
  · exact .inr ⟨G, off, cur, rfl, hl, by rw [hk G rfl]; exact hh, hr⟩
theorem Outer.tail {w : World} {lo : Nat} {G off c : Nat} {v : Value} {vs : List Value} (h : Outer w lo (some ⟨G, off, none⟩) c (v :: vs)) : Outer w lo (some ⟨G, off + 1, none⟩) (c - 1) vs := by
  refine ⟨by have := h.1; omega, ?_⟩
  rcases h.2 with ⟨h1, _⟩ | ⟨G', off', cur, h1, hl, hh, hs, hn, ht⟩
  · cases h1
  · simp only [Option.some.injEq, Addr.mk.injEq, and_true] at h1
    obtain ⟨rfl, rfl⟩ := h1
    simp at hn
    refine .inr ⟨G, off + 1, cur, rfl, hl, hh, by omega, by omega, ?_⟩
    have := congrArg List.tail ht
    simp only [List.length_cons, List.tail_cons] at this
    rw [← this, ← List.drop_one, List.drop_take, List.drop_drop]
    simp

theorem outer_run (w : World) (ty : TypeId) (lo : Nat) (a : Option Addr) (c : Nat) (vs : List Value) (v : Value) (N : Nat) (h : Outer w lo a c vs) (hv : w.cell? ⟨N, 0, none⟩ = some v) (h1 : v.oneCell' = true) (hn : vs.length ≤ 4000) (hlo : lo ≤ w.heap.size) :
    ∃ a' c' w', (Builtin.append_ #[42, 42] ty #[.slice a vs.length c, .slice (some ⟨N, 0, none⟩) 1 1]).run Tryd.prog w = .ok (.slice a' (vs.length + 1) c') w' ∧ Outer w' lo a' c' (vs ++ [v]) ∧ w.grownBy w' (blk a) ∧ (∀ g, blk a' = some g → blk a = some g ∨ w.heap.size ≤ g) := by
  obtain ⟨i0, hi, hz0, hz1, hz2⟩ := info_parts Tryd.info22
  have hnews : ∀ j u, [v][j]? = some u → w.cell? ((⟨N, 0, none⟩ : Addr).add j) = some u := by
    intro j u hj
    match j, hj with
    | 0, hj =>
      simp at hj
      subst hj
      simpa [Addr.add] using hv
  have hone : ∀ u ∈ [v], u.oneCell' = true := by intro u hu; simp at hu; subst hu; exact h1
  have fin : ∀ (v' : Value) (w' : World), w'.ownsRow w.heap.size 22 1 v' (vs.length + 1) (vs ++ [v]) → ∃ a' c', v' = .slice a' (vs.length + 1) c' ∧ Outer w' lo a' c' (vs ++ [v]) ∧ ∀ g, blk a' = some g → blk a = some g ∨ w.heap.size ≤ g := by
    intro v' w' ho
    rcases ho.2 with ⟨_, h0⟩ | ⟨g, cap, cur, rfl, hb, hh, hnc, hcm, hcs, ht⟩
    · omega
    · refine ⟨_, _, rfl, ⟨hcm, .inr ⟨g, 0, cur, rfl, by omega, hh, by omega, by simpa using hnc, ?_⟩⟩, fun g' hg' => .inr (by simp [blk] at hg'; omega)⟩
      simpa using ht
  rcases h.2 with ⟨rfl, rfl, rfl⟩ | ⟨G, off, cur, rfl, hl, hh, hs, hnc, ht⟩
  · obtain ⟨v', w', hrun, r1, r2, _⟩ := run_append_own (P := Tryd.prog) w w.heap.size 42 ty 22 i0 (.slice none 0 0) 1 24 Tryd.underlying42 hi hz0 hz1 hz2 rfl (by decide) (.slice none 0 0) 0 [] (World.ownsRow_nil w _ 22 1) ⟨N, 0, none⟩ 1 1 [v] rfl hnews hone (by simp [maxLen]) (by decide) (Nat.le_refl _)
    obtain ⟨a', c', rfl, ho, hg⟩ := fin v' w' (by simpa using r1)
    exact ⟨a', c', w', hrun, ho, r2, hg⟩
  · by_cases hroom : vs.length + 1 ≤ c
    · have hcs : off + vs.length < cur.size := by omega
      have hcell : (w.cell? ⟨G, off + vs.length, none⟩).isSome = true := by
        rw [cell_of_row w G (off + vs.length) cur 22 (0, 0) hh]
        simp [hcs]
      have hfz : w.frozen? ⟨G, off + vs.length, none⟩ = false := frozen_of_row w G _ cur 22 hh
      have hrun := run_append_room_cells (P := Tryd.prog) w 42 ty 22 i0 Tryd.underlying42 hi G off vs.length c ⟨N, 0, none⟩ 1 1 [v] (by rw [hz1]; rfl) hnews hone hroom
        (fun j hj => by rw [hz1]; simp at hj; subst hj; simpa using hcell) (fun j hj => by rw [hz1]; simp at hj; subst hj; simpa using hfz)
      rw [hz1, Nat.mul_one] at hrun
      refine ⟨_, _, _, hrun, ⟨h.1, .inr ⟨G, off, cur.setIfInBounds (off + vs.length) v, rfl, hl, ?_, by simpa using hs, by simp; omega, ?_⟩⟩, ?_, fun g hg => .inl hg⟩
      · simp only [World.setCells]
        exact heap_setCell_same w G (off + vs.length) cur 22 v hh
      · rw [Array.toList_setIfInBounds]
        rw [List.drop_set, if_neg (by omega), show off + vs.length - off = vs.length by omega]
        simp only [List.length_append, List.length_singleton]
        have hlen : vs.length < (cur.toList.drop off).length := by simp; omega
        have e2 : vs.length + 1 ≤ ((cur.toList.drop off).set vs.length v).length := by simp; omega
        rw [List.take_succ_eq_append_getElem (by simpa using hlen)]
        simp [List.take_set, ht]
        rw [List.set_eq_of_length_le (by simp)] <;> simp [ht]
      · exact ⟨rfl, rfl, rfl, by simp [World.setCells, World.setCell], fun k _ hk => by
          simp only [World.setCells]
          exact heap_setCell_other w ⟨G, off + vs.length, none⟩ k v (fun e => hk (by simp [blk, e]))⟩
    · have holds : ∀ j u, vs[j]? = some u → w.cell? ((⟨G, off, none⟩ : Addr).add j) = some u := by
        intro j u hj
        have hjl : j < vs.length := by
          rcases Nat.lt_or_ge j vs.length with h | h
          · exact h
          · rw [List.getElem?_eq_none h] at hj; cases hj
        rw [Addr.add_lit, Outer.cell (a := none) h j hjl, hj]
      obtain ⟨v', w', hrun, r1, r2⟩ := run_append_arg_grows (P := Tryd.prog) w 42 ty 22 i0 (.slice none 0 0) 1 24 Tryd.underlying42 hi hz0 hz1 hz2 rfl (by decide) ⟨G, off, none⟩ vs.length c vs (by simp) holds ⟨N, 0, none⟩ 1 1 [v] rfl hnews (by omega) (by unfold maxLen; omega) (by omega)
      obtain ⟨a', c', rfl, ho, hg⟩ := fin v' w' r1
      exact ⟨a', c', w', hrun, ho, ⟨r2.os, r2.tape, r2.output, r2.size, fun k hk _ => r2.block k hk (by simp)⟩, hg⟩

end Go.Proofs.YtmpckkogllnkkaaDoor
