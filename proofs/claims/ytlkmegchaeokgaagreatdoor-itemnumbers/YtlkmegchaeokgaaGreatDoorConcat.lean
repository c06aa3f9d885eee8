/- slices.Concat of two lists of terms; expr.Add. -/
import Derived.Test.YtlkmegchaeokgaaGreatDoorGather
import Derived.Laws.AppendOwnNone
import Derived.Deep.RegionHeld3
namespace Go.Proofs.YtlkmegchaeokgaaGreatDoor
open Go.ChangeShapes Go.WideShapes Go.ChangeAt Go.RowKit
set_option linter.unusedVariables false
set_option maxRecDepth 100000
structure Held (w : World) (a : Option Addr) (c : Nat) (ts : List Tm) : Prop where
 lies : TmLies w a ts
 nil : a = none -> ts.length = 0 /\ c = 0
theorem Held.below {w w' : World} {a : Option Addr} {c : Nat} {ts : List Tm} {B : Nat} (h : Held w a c ts) (hb : Below B w w') (hB : w.heap.size <= B) : Held w' a c ts := ⟨h.lies.below hb hB, h.nil⟩
theorem own_held {w : World} {B n : Nat} {a : Option Addr} {c : Nat} {ts : List Tm} (h : w.ownsRow B 61 2 (.slice a n c) ts.length (rowT ts)) : Held w a c ts := by
 have hn := own_len h
 subst hn
 refine ⟨own_tmLies h, fun ha => ?_⟩
 subst ha
 rcases h.2 with ⟨hv, h0⟩ | ⟨g, cap, cur, hv, _⟩
 ·injection hv with _ _ hv
  exact ⟨h0, hv⟩
 ·cases hv
theorem rowT_one (ts : List Tm) : ∀ u ∈ rowT ts, u.oneCell' = true := by
 intro u hu
 simp only [rowT, List.mem_flatMap] at hu
 obtain ⟨t, _, hu⟩ := hu
 simp [Tm.cells] at hu
 rcases hu with rfl | rfl <;> rfl
theorem lies_cells {w : World} {ad : Addr} {ts : List Tm} (h : TmLies w (some ad) ts) : ∀ j u, (rowT ts)[j]? = some u -> w.cell? (ad.add j) = some u := by
 intro j u hj
 rcases h with rfl | ⟨g, o, hgo, hg, h⟩
 ·simp [rowT] at hj
 ·injection hgo with hgo
  subst hgo
  have hlt : j < ts.length * 2 := by
   have := (List.getElem?_eq_some_iff.1 hj).1
   rwa [rowT_length] at this
  have h1 : ts[j / 2]? = some ts[j / 2] := List.getElem?_eq_getElem (by omega)
  have h2 := rowT_get ts (j / 2) (j % 2) _ h1 (by omega)
  rw [show j / 2 * 2 + j % 2 = j by omega, hj] at h2
  obtain ⟨e1, e2⟩ := h (j / 2) _ h1
  have hadd : (⟨g, o, none⟩ : Addr).add j = ⟨g, o + j, none⟩ := by simp [Addr.add]
  rw [hadd]
  rcases Nat.mod_two_eq_zero_or_one j with hm | hm
  ·rw [hm] at h2
   rw [show o + j / 2 * 2 = o + j by omega] at e1
   rw [e1, h2]
   rfl
  ·rw [hm] at h2
   rw [show o + j / 2 * 2 + 1 = o + j by omega] at e2
   rw [e2, h2]
   rfl
theorem app_terms {ops : Array Oper} {rest : List Oper} {o : Oper} {a : Act} {Q : Exit -> Act -> World -> Prop} (w : World) (hgd : o.guard = none) (s x : Operand)
  (ho : o.op = .call { callee := .builtin .append, args := #[s, x], argTypes := #[28, 28] }) (base : Nat) (v : Value) (n : Nat) (zs ts : List Tm) (hn : n = zs.length) (hs : a.eval s = v) (hown : w.ownsRow base 61 2 v n (rowT zs))
  (a3 : Option Addr) (c3 m : Nat) (hm3 : m = ts.length) (hx : a.eval x = .slice a3 m c3) (hl : Held w a3 c3 ts) (hm : n + m <= 9000000) (hbase : base <= w.heap.size)
  (h : ∀ a' c' w', w'.ownsRow base 61 2 (.slice a' (n + m) c') (n + m) (rowT (zs ++ ts)) -> w.grownBy w' v.ownBlock -> wpList Tryz.prog ops Q rest (a.put o.dst (.slice a' (n + m) c')) w') : wpList Tryz.prog ops Q (o :: rest) a w := by
 subst hn hm3
 obtain ⟨i0, hi, hz0, hz1, hz2⟩ := info_parts Tryz.info61
 cases a3 with
 | none =>
  obtain ⟨ht, rfl⟩ := hl.nil rfl
  obtain rfl := List.length_eq_zero_iff.1 ht
  refine wpList_append_own_none hgd s x 28 ho base 61 i0 2 Tryz.underlying28 hi v zs.length (rowT zs) hs hown hx ?_
  obtain ⟨a', c', rfl⟩ := own_slice hown
  have := h a' c' w (by simpa using hown) (World.grownBy.refl _ _)
  simpa using this
 | some ad =>
  refine wpList_append_own_wide w hgd s x 28 ho base 61 i0 (.agg #[.string ⟨#[]⟩, .int .u32 0]) 2 24 Tryz.underlying28 hi hz0 hz1 hz2 rfl (by decide) v zs.length (rowT zs) hs hown ad ts.length c3 (rowT ts) hx (rowT_length ts) (lies_cells hl.lies) (rowT_one ts) (by unfold maxLen; omega) (by omega) hbase ?_
  intro v' w' hown' hgrow _
  obtain ⟨a', c', rfl⟩ := own_slice hown'
  exact h a' c' w' (by rw [rowT_append]; exact hown') hgrow
end Go.Proofs.YtlkmegchaeokgaaGreatDoor
