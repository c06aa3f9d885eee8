/- spandrelkeep's CopyLin; CopyItems of nothing. -/
import Derived.Test.YtebbbefknfldoaaKn2
import Derived.Deep.RegionHeld3
import Derived.Test.YtebbbefknfldoaaRt
import Derived.Test.YtebbbefknfldoaaRight
import Derived.Deep.SlicePairs
import Derived.ChangeArms
import Derived.Lib.SmallJoins
import Derived.Test.YtebbbefknfldoaaKnown
import Derived.Deep.DeepCutAuto
/- EquNumbers: its walk. -/
namespace Go.Proofs.Ytebbbefknfldoaa
open Go.ChangeShapes Go.WideShapes Go.ChangeAt Go.RowKit Go.Sort
set_option linter.unusedVariables false
set_option linter.unusedSimpArgs false
set_option maxRecDepth 100000
theorem StIn.below {w w' : World} {a : Option Addr} {l : List (List UInt8)} (h : StIn w a l) (hb : Below w.heap.size w w') : StIn w' a l := by
  rcases h with h | ⟨g, o, ha, hg, h⟩
  · exact .inl h
  · exact .inr ⟨g, o, ha, Nat.lt_of_lt_of_le hg hb.size, fun i s hi => (hb.cell (p := ⟨g, _, none⟩) hg).trans (h i s hi)⟩
end Go.Proofs.Ytebbbefknfldoaa
/- What is solved, as a function of names: that it is the one that puts itself in; that it hangs on no order. Plain facts. -/
namespace Go.Proofs.Ytebbbefknfldoaa
set_option linter.unusedVariables false
set_option linter.unusedSimpArgs false
set_option maxRecDepth 100000
structure Slb (l : List Eqv) : Prop where
  nd : (l.map (·.1)).Nodup
  len : l.length < Ta.big
  ac : ∀ x, ¬ CycN l x
  ord : (walkL l).order.length ≤ l.length
section
variable {l : List Eqv}
theorem Slb.order (h : Slb l) : (walkL l).order.Nodup ∧ ∀ v, v ∈ (walkL l).order ↔ v < l.length := order_is h.nd h.len h.ord
theorem Slb.split (h : Slb l) {i : Nat} (hi : i < l.length) : ∃ l1 l2, (walkL l).order = l1 ++ i :: l2 ∧ ∀ u ∈ adjF l i, u ∈ l1 := by
  obtain ⟨l1, l2, e⟩ := List.append_of_mem ((h.order.2 i).2 hi)
  refine ⟨l1, l2, e, ?_⟩
  rcases (walk_right h.nd h.len).2.2 l1 i l2 e with h1 | h1
  · exact h1
  · exact absurd ⟨i, hi, h1, rfl⟩ (h.ac (nmOf l i))
end
end Go.Proofs.Ytebbbefknfldoaa
/- Equs laid behind equs. -/
namespace Go.Proofs.Ytebbbefknfldoaa
open Go.ChangeShapes Go.WideShapes Go.ChangeAt Go.RowKit
set_option linter.unusedVariables false
set_option linter.unusedSimpArgs false
set_option maxRecDepth 100000
def rowQ (qs : List (Eqv × Option Addr × Nat)) : List Value := qs.flatMap fun q => [.string (str q.1.1), .slice q.2.1 q.1.2.terms.length q.2.2, .int .u32 q.1.2.const]
theorem rowQ_app (a b : List (Eqv × Option Addr × Nat)) : rowQ (a ++ b) = rowQ a ++ rowQ b := by simp [rowQ]
theorem rowQ_len (qs : List (Eqv × Option Addr × Nat)) : (rowQ qs).length = qs.length * 3 := by
  induction qs with
  | nil => rfl
  | cons x l ih => show (_ :: _ :: _ :: rowQ l).length = _; simp [ih]; omega
theorem rowQ_get : ∀ (qs : List (Eqv × Option Addr × Nat)) (i : Nat) (q : Eqv × Option Addr × Nat), qs[i]? = some q → (rowQ qs)[i * 3]? = some (.string (str q.1.1)) ∧ (rowQ qs)[i * 3 + 1]? = some (.slice q.2.1 q.1.2.terms.length q.2.2) ∧ (rowQ qs)[i * 3 + 2]? = some (.int .u32 q.1.2.const)
  | [], i, q, h => by cases h
  | x :: l, 0, q, h => by
    have : x = q := by simpa using h
    subst this
    exact ⟨rfl, rfl, rfl⟩
  | x :: l, i + 1, q, h => by
    obtain ⟨h1, h2, h3⟩ := rowQ_get l i q (by simpa using h)
    have e : rowQ (x :: l) = .string (str x.1.1) :: .slice x.2.1 x.1.2.terms.length x.2.2 :: .int .u32 x.1.2.const :: rowQ l := rfl
    rw [e, show (i + 1) * 3 = i * 3 + 1 + 1 + 1 by omega]
    exact ⟨h1, h2, h3⟩
theorem rowQ_at : ∀ (qs : List (Eqv × Option Addr × Nat)) (j : Nat) (u : Value), (rowQ qs)[j]? = some u → ∃ i q r, qs[i]? = some q ∧ r < 3 ∧ j = i * 3 + r ∧ [Value.string (str q.1.1), .slice q.2.1 q.1.2.terms.length q.2.2, .int .u32 q.1.2.const][r]? = some u
  | [], j, u, h => by cases h
  | x :: l, 0, u, h => ⟨0, x, 0, rfl, by omega, rfl, h⟩
  | x :: l, 1, u, h => ⟨0, x, 1, rfl, by omega, rfl, h⟩
  | x :: l, 2, u, h => ⟨0, x, 2, rfl, by omega, rfl, h⟩
  | x :: l, j + 3, u, h => by
    have e : rowQ (x :: l) = .string (str x.1.1) :: .slice x.2.1 x.1.2.terms.length x.2.2 :: .int .u32 x.1.2.const :: rowQ l := rfl
    rw [e] at h
    obtain ⟨i, q, r, h1, h2, h3, h4⟩ := rowQ_at l j u (by simpa using h)
    exact ⟨i + 1, q, r, by simpa using h1, h2, by omega, h4⟩
structure EqQ (w : World) (g o : Nat) (qs : List (Eqv × Option Addr × Nat)) : Prop where
  lt : g < w.heap.size
  at_ : ∀ i q, qs[i]? = some q → EqAt w g (o + i * 3) q.1 q.2.1 q.2.2
theorem EqQ.below {w w' : World} {g o : Nat} {qs : List (Eqv × Option Addr × Nat)} (h : EqQ w g o qs) (hb : Below w.heap.size w w') : EqQ w' g o qs :=
  ⟨Nat.lt_of_lt_of_le h.lt hb.size, fun i q hq => (h.at_ i q hq).below h.lt hb⟩
theorem EqQ.cell {w : World} {g o : Nat} {qs : List (Eqv × Option Addr × Nat)} (h : EqQ w g o qs) {j : Nat} {u : Value} (hu : (rowQ qs)[j]? = some u) : w.cell? ⟨g, o + j, none⟩ = some u := by
  obtain ⟨i, q, r, h1, h2, rfl, h4⟩ := rowQ_at qs j u hu
  obtain ⟨k1, k2, k3, _⟩ := h.at_ i q h1
  match r, h2, h4 with
  | 0, _, h4 => rw [show o + (i * 3 + 0) = o + i * 3 by omega, k1]; exact h4
  | 1, _, h4 => rw [show o + (i * 3 + 1) = o + i * 3 + 1 by omega, k2]; exact h4
  | 2, _, h4 => rw [show o + (i * 3 + 2) = o + i * 3 + 2 by omega, k3]; exact h4
theorem own_eqIn {w : World} {lo : Nat} {a : Option Addr} {n c : Nat} {qs : List (Eqv × Option Addr × Nat)} (ho : w.ownsRow lo 31 3 (.slice a n c) n (rowQ qs)) (hn : n = qs.length) (hl : ∀ q ∈ qs, TmLies w q.2.1 q.1.2.terms) : EqIn w a (qs.map (·.1)) := by
  by_cases h0 : n = 0
  · refine .inl ?_
    rw [List.eq_nil_of_length_eq_zero (by omega : qs.length = 0)]; rfl
  · obtain ⟨g, rfl, _, hc⟩ := own_addr ho (by omega)
    rcases ho.2 with ⟨_, e⟩ | ⟨g', cap, cur, hv, k2, k3, _⟩
    · omega
    · injection hv with e1
      cases e1
      refine .inr ⟨g, 0, rfl, wblk_lt k3, fun i e hi => ?_⟩
      rw [List.getElem?_map] at hi
      cases hq : qs[i]? with
      | none => rw [hq] at hi; cases hi
      | some q =>
        rw [hq] at hi
        have : q.1 = e := by simpa using hi
        subst this
        obtain ⟨h1, h2, h3⟩ := rowQ_get qs i q hq
        exact ⟨q.2.1, q.2.2, by rw [Nat.zero_add]; exact hc _ _ h1, by rw [Nat.zero_add]; exact hc _ _ h2, by rw [Nat.zero_add]; exact hc _ _ h3, hl q (List.mem_of_getElem? hq)⟩
end Go.Proofs.Ytebbbefknfldoaa
/- Equs that come in as the laws take them; both ways of Solve; in another order. -/
namespace Go.Proofs.Ytebbbefknfldoaa
open Go.ChangeShapes Go.WideShapes Go.ChangeAt Go.RowKit
set_option linter.unusedVariables false
set_option linter.unusedSimpArgs false
set_option maxRecDepth 100000
structure SolvIn (l : List Eqv) : Prop where
  len : l.length ≤ 60
  nd : (l.map (·.1)).Nodup
  nm : ∀ q ∈ l, q.1.length ≤ 140737488355328
  can : ∀ q ∈ l, CanL q.2
  nms : (nmsOf l).length ≤ 4400000
  nml : ∀ s ∈ nmsOf l, s.length ≤ 140737488355328
theorem nms_mem {l : List Eqv} {q : Eqv} (hq : q ∈ l) {t : Tm} (ht : t ∈ q.2.terms) : t.name ∈ nmsOf l := List.mem_flatMap.2 ⟨q, hq, List.mem_map.2 ⟨t, ht, rfl⟩⟩
section
variable {l : List Eqv}
theorem SolvIn.big (h : SolvIn l) : l.length < Ta.big := Nat.lt_of_le_of_lt h.len (by decide)
theorem SolvIn.held (h : SolvIn l) : ∀ q ∈ l, q.1.length ≤ 140737488355328 ∧ q.2.terms.length ≤ 4400000 ∧ ∀ t ∈ q.2.terms, t.name.length ≤ 140737488355328 := fun q hq =>
  ⟨h.nm q hq, Nat.le_trans (canon_len (h.can q hq).terms fun t ht => nms_mem hq ht) h.nms, fun t ht => h.nml _ (nms_mem hq ht)⟩
theorem SolvIn.perm {m : List Eqv} (h : SolvIn l) (hp : m.Perm l) : SolvIn m := by
  refine ⟨by rw [hp.length_eq]; exact h.len, (hp.map _).nodup_iff.2 h.nd, fun q hq => h.nm q (hp.mem_iff.1 hq), fun q hq => h.can q (hp.mem_iff.1 hq), ?_, fun s hs => ?_⟩
  · have : (nmsOf m).Perm (nmsOf l) := hp.flatMap_right _
    rw [this.length_eq]; exact h.nms
  · have : (nmsOf m).Perm (nmsOf l) := hp.flatMap_right _
    exact h.nml s (this.mem_iff.1 hs)
theorem solve_not (h : SolvIn l) (hc : ∃ x, CycN l x) (la : Option Addr) (lc : Nat) (w : World) (hE : EqIn w la l) :
    Calls Try.prog 8 #[.slice la l.length lc] w fun e w' => ∃ m : Nat, e = .returned (.tuple #[.slice none 0 0, .int .i64 (m : Int), .int .i64 24]) ∧ FirstC l m ∧ Below w.heap.size w w' :=
  solve_bad l la lc (by have := h.len; omega) h.nd h.held hc w hE
end
end Go.Proofs.Ytebbbefknfldoaa
/- EquTurned: its walk. -/
namespace Go.Proofs.Ytebbbefknfldoaa
open Go.ChangeShapes Go.WideShapes Go.ChangeAt Go.RowKit Go.Sort
set_option linter.unusedVariables false
set_option linter.unusedSimpArgs false
set_option maxRecDepth 100000
structure InL (l : List Eqv) : Prop where
  len : l.length ≤ 4400000
  nm : ∀ q ∈ l, q.1.length ≤ 1100000
  ts : ∀ q ∈ l, q.2.terms.length ≤ 4400000
  tn : ∀ q ∈ l, ∀ t ∈ q.2.terms, t.name.length ≤ 1100000
  cf : ∀ q ∈ l, ∀ t ∈ q.2.terms, 0 ≤ t.coef ∧ t.coef < 4294967296
  cs : ∀ q ∈ l, 0 ≤ q.2.const ∧ q.2.const < 4294967296
  nms : (nmsOf l).length ≤ 4400000
theorem InL.right {l : List Eqv} (h : InL l) (hr : RightP l) : SolvIn l := ⟨hr.1, hr.2.2, fun q hq => by have := h.nm q hq; omega, fun q hq => ⟨right_canon (h.cf q hq) (hr.2.1 q hq).2, h.cs q hq⟩, h.nms, fun s hs => by
  obtain ⟨q, hq, hu⟩ := List.mem_flatMap.1 hs
  obtain ⟨t, ht, rfl⟩ := List.mem_map.1 hu
  have := h.tn q hq t ht
  omega⟩
theorem InL.rightC {l : List Eqv} (h : InL l) (la : Option Addr) (lc : Nat) (w : World) (hE : EqIn w la l) : Calls Try.prog 15 #[.slice la l.length lc] w fun e w' => e = .returned (.bool (rightB l)) ∧ Below w.heap.size w w' :=
  right11_any l la lc h.len (fun q hq => ⟨h.nm q hq, by have := h.ts q hq; omega, h.tn q hq⟩) w hE
end Go.Proofs.Ytebbbefknfldoaa
/- How a Lin that came in is opened: its terms lie in memory; what the bound on its bulk gives. -/
namespace Go.Proofs.Ytebbbefknfldoaa
open Go.ChangeShapes Go.WideShapes Go.ChangeAt Go.RowKit
set_option linter.unusedVariables false
set_option maxRecDepth 100000
theorem cells25 : Try.prog.cellsOf 29 = 2 := by kernel_rfl
theorem cells22 : Try.prog.cellsOf 26 = 1 := by kernel_rfl
theorem cells56 : Try.prog.cellsOf 49 = 2 := by kernel_rfl
theorem cells9 : Try.prog.cellsOf 9 = 1 := by kernel_rfl
theorem cells23 : Try.prog.cellsOf 27 = 1 := by kernel_rfl
theorem bulk_pos {H : Type} (d : DataW H) : 1 ≤ Rows.uptoBulk d := by
  cases d with
  | lit l => cases l <;> simp [Rows.uptoBulk]
  | nil => simp [Rows.uptoBulk]
  | ptr d => simp [Rows.uptoBulk]
  | slice elems spare => simp [Rows.uptoBulk]
  | agg parts => simp [Rows.uptoBulk]
  | iface t d => simp [Rows.uptoBulk]
  | map entries => simp [Rows.uptoBulk]
  | held h => simp [Rows.uptoBulk]
theorem bulk_all {H : Type} (l : List (DataW H)) : l.length ≤ Rows.uptoBulkAll l := by
  induction l with
  | nil => simp [Rows.uptoBulkAll]
  | cons x r ih =>
    have := bulk_pos x
    simp only [Rows.uptoBulkAll, List.length_cons]
    omega
theorem bulk_mem {H : Type} (l : List (DataW H)) (d : DataW H) (h : d ∈ l) : Rows.uptoBulk d ≤ Rows.uptoBulkAll l := by
  induction l with
  | nil => cases h
  | cons x r ih =>
    simp only [Rows.uptoBulkAll]
    rcases List.mem_cons.1 h with rfl | h
    · omega
    · have := ih h
      omega
def nameV : Value → List UInt8
  | .string s => s.data.toList
  | _ => []
structure LinIn (W : World) (v : Value) (N : Nat) (a : Option Addr) (c : Nat) (ts : List Tm) (k : Int) : Prop where
  is : v = linV (.slice a ts.length c) k
  held : Held W a c ts
  lo : 0 ≤ k
  hi : k < 4294967296
  few : ts.length ≤ N
  each : ∀ t ∈ ts, 0 ≤ t.coef ∧ t.coef < 4294967296 ∧ t.name.length ≤ N
  cap : ts.length ≤ c
  most : c ≤ maxLen
theorem open_lin {H : Type} {enc : TypeId × Value → H} {W : World} {base : Nat} {v : Value} {d : DataW H} {p : List MemPlace}
    (hval : Value.okWide Try.prog W .any base 29 v) (h : DataW.Trod enc Try.prog W 0 (fun _ => true) true 29 v d p) :
    ∃ a c ts k, LinIn W v (Rows.uptoBulk d) a c ts k := by
  obtain ⟨cs, rfl, hcs⟩ := okWide_struct Try.underlying29 hval
  rw [cells25] at hcs
  obtain ⟨fuel, hf⟩ := h
  have hlt : ∀ x ∈ p, x.block < W.heap.size := DataW.trod_lt fuel _ _ _ hf
  obtain ⟨y0, y1, n, hx, hl, t0, t1⟩ := trod_struct2 Try.underlying29 hf
  obtain ⟨cs⟩ := cs
  match cs, hcs with
  | [c0, c1], _ =>
    simp only [Value.cells, cells22, cells23, List.drop, List.take] at t0 t1
    obtain ⟨k, hk, rfl, wk⟩ := DataW.trod_int Try.underlying27 t1
    simp only [List.cons.injEq, and_true] at hk
    subst hk
    have hb := bounds_u32 wk
    simp only [Prod.mk.injEq] at hx
    obtain ⟨rfl, rfl⟩ := hx
    rcases Deep.open_slice_pairs Try.underlying26 Try.underlying49 cells56 rfl rfl cells9 cells23 t0 with ⟨hc, rfl⟩ | ⟨a, len, cap, m, n', V0, V1, D0, D1, P0, P1, hc, _, hlc, hcm, hm, rfl, hall⟩
    · simp only [List.cons.injEq, and_true] at hc
      subst hc
      exact ⟨none, 0, [], k, ⟨rfl, ⟨.inl rfl, fun _ => ⟨rfl, rfl⟩⟩, hb.1, by omega, Nat.zero_le _, (fun t ht => by (cases ht)), Nat.le_refl _, Nat.zero_le _⟩⟩
    · simp only [List.cons.injEq, and_true] at hc
      subst hc
      simp only [if_true] at hm
      subst hm
      have hone : ∀ i, i < len → V0 i = .string (str (nameV (V0 i))) ∧ V1 i = .int .u32 (intOf (V1 i)) ∧ 0 ≤ intOf (V1 i) ∧ intOf (V1 i) < 4294967296 ∧ (nameV (V0 i)).length + 1 ≤ Rows.uptoBulk (D0 i) := fun i hi => by
        obtain ⟨_, _, h0, h1⟩ := hall i (by omega)
        obtain ⟨s, e0, e1, _⟩ := DataW.trod_string Try.underlying9 h0
        obtain ⟨z, e2, e3, wz⟩ := DataW.trod_int Try.underlying27 h1
        simp only [List.cons.injEq, and_true] at e0 e2
        simp only [Prod.mk.injEq] at e1 e3
        rw [e0, e2, e1.1]
        have := bounds_u32 wz
        refine ⟨?_, rfl, this.1, by simp only [intOf]; omega, by simp [nameV, Rows.uptoBulk]⟩
        simp [nameV, str]
      have hbulk : ∀ i, i < len → Rows.uptoBulk (D0 i) + 1 ≤ Rows.uptoBulkAll ((List.range len).map fun i => DataW.agg [D0 i, D1 i]) := fun i hi => by
        have := bulk_mem ((List.range len).map fun i => DataW.agg [D0 i, D1 i]) (.agg [D0 i, D1 i]) (List.mem_map.2 ⟨i, List.mem_range.2 hi, rfl⟩)
        simp only [Rows.uptoBulk, Rows.uptoBulkAll] at this
        omega
      have hfew := bulk_all ((List.range len).map fun i => DataW.agg [D0 i, D1 i])
      simp only [List.length_map, List.length_range] at hfew
      have hB : Rows.uptoBulkAll ((List.range len).map fun i => DataW.agg [D0 i, D1 i]) ≤ Rows.uptoBulk (DataW.agg [DataW.slice ((List.range len).map fun i => DataW.agg [D0 i, D1 i]) ((List.range (m - len)).map fun j => DataW.agg [D0 (len + j), D1 (len + j)]), DataW.lit (Lit.int IntKind.u32 k)]) := by
        simp only [Rows.uptoBulk, Rows.uptoBulkAll]
        omega
      have hat : ∀ i t, ((List.range len).map fun i => (⟨nameV (V0 i), intOf (V1 i)⟩ : Tm))[i]? = some t → i < len ∧ t = ⟨nameV (V0 i), intOf (V1 i)⟩ := fun i t ht => by
        rw [List.getElem?_map, Option.map_eq_some_iff] at ht
        obtain ⟨j, hj, rfl⟩ := ht
        obtain ⟨hj1, hj2⟩ := List.getElem?_eq_some_iff.1 hj
        simp at hj1 hj2
        subst hj2
        exact ⟨hj1, rfl⟩
      refine ⟨some a, m, (List.range len).map fun i => ⟨nameV (V0 i), intOf (V1 i)⟩, k, ⟨by simp [linV], ⟨?_, fun h => by cases h⟩, hb.1, by omega, by simp; omega, fun t ht => ?_, by simpa using hlc, hcm⟩⟩
      · by_cases h0 : len = 0
        · subst h0
          exact .inl rfl
        · obtain ⟨b, off, spot⟩ := a
          have hspot : spot = none := by simpa [Addr.add] using World.cell?_spot (hall 0 (by omega)).1
          subst hspot
          have hadd : ∀ j, (⟨b, off, none⟩ : Addr).add j = ⟨b, off + j, none⟩ := fun j => by unfold Addr.add; split <;> simp_all
          refine .inr ⟨b, off, rfl, ?_, fun i t ht => ?_⟩
          · have h1 := (hall 0 (by omega)).1
            apply Decidable.byContradiction
            intro hn
            unfold World.cell? at h1
            simp [Array.getElem?_eq_none (show W.heap.size ≤ b by omega), hadd] at h1
          · obtain ⟨hi, rfl⟩ := hat i t ht
            obtain ⟨k0, k1, _⟩ := hall i (by omega)
            rw [hadd] at k0 k1
            obtain ⟨e0, e1, _⟩ := hone i hi
            exact ⟨by rw [k0, ← e0], by rw [Nat.add_assoc, k1, ← e1]⟩
      · obtain ⟨i, hi⟩ := List.getElem?_of_mem ht
        obtain ⟨hi2, rfl⟩ := hat i t hi
        obtain ⟨_, _, e2, e3, e4⟩ := hone i hi2
        have := hbulk i hi2
        exact ⟨e2, e3, by simp only; omega⟩
end Go.Proofs.Ytebbbefknfldoaa
/- How equs that came in are opened. -/
namespace Go.Proofs.Ytebbbefknfldoaa
open Go.ChangeShapes Go.WideShapes Go.ChangeAt Go.RowKit
set_option linter.unusedVariables false
set_option linter.unusedSimpArgs false
set_option maxRecDepth 100000
theorem cel9 : Try.prog.cellsOf 9 = 1 := by kernel_rfl
theorem cel86 : Try.prog.cellsOf 26 = 1 := by kernel_rfl
theorem cel87 : Try.prog.cellsOf 27 = 1 := by kernel_rfl
theorem cel89 : Try.prog.cellsOf 29 = 2 := by kernel_rfl
theorem cel101 : Try.prog.cellsOf 31 = 3 := by kernel_rfl
theorem cel123 : Try.prog.cellsOf 49 = 2 := by kernel_rfl
theorem flat_at {α β : Type} (f : α → List β) (k : Nat) (hf : ∀ x, (f x).length = k) : ∀ (l : List α) (i j : Nat) (x : α), l[i]? = some x → j < k → (l.flatMap f)[i * k + j]? = (f x)[j]?
  | [], i, j, x, h, hj => by simp at h
  | y :: l, 0, j, x, h, hj => by
    simp only [List.getElem?_cons_zero, Option.some.injEq] at h
    subst h
    rw [List.flatMap_cons, Nat.zero_mul, Nat.zero_add, List.getElem?_append_left (by rw [hf]; exact hj)]
  | y :: l, i + 1, j, x, h, hj => by
    rw [List.flatMap_cons, List.getElem?_append_right (by rw [hf, Nat.succ_mul]; omega), hf, show (i + 1) * k + j - k = i * k + j by rw [Nat.succ_mul]; omega]
    exact flat_at f k hf l i j x (by simpa using h) hj
theorem list3 {α : Type} {l : List α} (h : l.length = 3) : ∃ a b c, l = [a, b, c] := by
  match l, h with
  | [a, b, c], _ => exact ⟨a, b, c, rfl⟩
theorem str_bytes (s : ByteArray) : s = str s.data.toList := by simp [str]
theorem list_each {α : Type} {n : Nat} {P : Nat → α → Prop} (h : ∀ i, i < n → ∃ x, P i x) : ∃ l : List α, l.length = n ∧ ∀ i x, l[i]? = some x → P i x := by
  induction n with
  | zero => exact ⟨[], rfl, fun i x hx => by simp at hx⟩
  | succ n ih =>
    obtain ⟨l, hl, he⟩ := ih fun i hi => h i (by omega)
    obtain ⟨x, hx⟩ := h n (by omega)
    refine ⟨l ++ [x], by simp [hl], fun i y hy => ?_⟩
    by_cases hi : i < l.length
    · rw [List.getElem?_append_left hi] at hy
      exact he i y hy
    · have hi2 := (List.getElem?_eq_some_iff.1 hy).1
      simp at hi2
      obtain rfl : i = l.length := by omega
      simp at hy
      subst hy
      rw [hl]
      exact hx
structure LinC (W : World) (B : Nat) (a : Option Addr) (c : Nat) (x : Lin) : Prop where
  lies : TmLies W a x.terms
  lo : 0 ≤ x.const
  hi : x.const < 4294967296
  few : x.terms.length ≤ B
  each : ∀ t ∈ x.terms, 0 ≤ t.coef ∧ t.coef < 4294967296 ∧ t.name.length ≤ B
  nil : a = none → c = 0
theorem open_linC {H : Type} {enc : TypeId × Value → H} {W : World} {c0 c1 : Value} {d : DataW H} {p : List MemPlace} {fuel : Nat}
    (hf : DataW.trod enc Try.prog W 0 (fun _ => true) true fuel 29 [c0, c1] = some (d, p)) :
    ∃ a c x, c0 = .slice a x.terms.length c ∧ c1 = .int .u32 x.const ∧ LinC W (Rows.uptoBulk d) a c x := by
  obtain ⟨y0, y1, n, hx, hl, t0, t1⟩ := trod_struct2 Try.underlying29 hf
  simp only [cel86, cel87, List.drop, List.take] at t0 t1
  obtain ⟨k, hk, rfl, wk⟩ := DataW.trod_int Try.underlying27 t1
  simp only [List.cons.injEq, and_true] at hk
  subst hk
  have hb := bounds_u32 wk
  simp only [Prod.mk.injEq] at hx
  obtain ⟨rfl, rfl⟩ := hx
  rcases Deep.open_slice_pairs Try.underlying26 Try.underlying49 cel123 rfl rfl cel9 cel87 t0 with ⟨hc, rfl⟩ | ⟨a, len, cap, m, n', V0, V1, D0, D1, P0, P1, hc, _, hlc, hcm, hm, rfl, hall⟩
  · simp only [List.cons.injEq, and_true] at hc
    subst hc
    exact ⟨none, 0, ⟨[], k⟩, rfl, rfl, ⟨.inl rfl, hb.1, by have := hb.2; show k < _; omega, Nat.zero_le _, (fun t ht => by (cases ht)), fun _ => rfl⟩⟩
  · simp only [List.cons.injEq, and_true] at hc
    subst hc
    simp only [if_true] at hm
    subst hm
    have hone : ∀ i, i < len → V0 i = .string (str (nameV (V0 i))) ∧ V1 i = .int .u32 (intOf (V1 i)) ∧ 0 ≤ intOf (V1 i) ∧ intOf (V1 i) < 4294967296 ∧ (nameV (V0 i)).length + 1 ≤ Rows.uptoBulk (D0 i) := fun i hi => by
      obtain ⟨_, _, h0, h1⟩ := hall i (by omega)
      obtain ⟨s, e0, e1, _⟩ := DataW.trod_string Try.underlying9 h0
      obtain ⟨z, e2, e3, wz⟩ := DataW.trod_int Try.underlying27 h1
      simp only [List.cons.injEq, and_true] at e0 e2
      simp only [Prod.mk.injEq] at e1 e3
      rw [e0, e2, e1.1]
      have := bounds_u32 wz
      refine ⟨?_, rfl, this.1, by simp only [intOf]; omega, by simp [nameV, Rows.uptoBulk]⟩
      simp [nameV, str]
    have hbulk : ∀ i, i < len → Rows.uptoBulk (D0 i) + 1 ≤ Rows.uptoBulkAll ((List.range len).map fun i => DataW.agg [D0 i, D1 i]) := fun i hi => by
      have := bulk_mem ((List.range len).map fun i => DataW.agg [D0 i, D1 i]) (.agg [D0 i, D1 i]) (List.mem_map.2 ⟨i, List.mem_range.2 hi, rfl⟩)
      simp only [Rows.uptoBulk, Rows.uptoBulkAll] at this
      omega
    have hfew := bulk_all ((List.range len).map fun i => DataW.agg [D0 i, D1 i])
    simp only [List.length_map, List.length_range] at hfew
    have hB : Rows.uptoBulkAll ((List.range len).map fun i => DataW.agg [D0 i, D1 i]) ≤ Rows.uptoBulk (DataW.agg [DataW.slice ((List.range len).map fun i => DataW.agg [D0 i, D1 i]) ((List.range (m - len)).map fun j => DataW.agg [D0 (len + j), D1 (len + j)]), DataW.lit (Lit.int IntKind.u32 k)]) := by
      simp only [Rows.uptoBulk, Rows.uptoBulkAll]
      omega
    have hat : ∀ i t, ((List.range len).map fun i => (⟨nameV (V0 i), intOf (V1 i)⟩ : Tm))[i]? = some t → i < len ∧ t = ⟨nameV (V0 i), intOf (V1 i)⟩ := fun i t ht => by
      rw [List.getElem?_map, Option.map_eq_some_iff] at ht
      obtain ⟨j, hj, rfl⟩ := ht
      obtain ⟨hj1, hj2⟩ := List.getElem?_eq_some_iff.1 hj
      simp at hj1 hj2
      subst hj2
      exact ⟨hj1, rfl⟩
    refine ⟨some a, m, ⟨(List.range len).map fun i => ⟨nameV (V0 i), intOf (V1 i)⟩, k⟩, by simp, rfl, ⟨?_, hb.1, by have := hb.2; show k < _; omega, by simp; omega, fun t ht => ?_, fun h => (by cases h)⟩⟩
    · by_cases h0 : len = 0
      · subst h0
        exact .inl rfl
      · obtain ⟨b, off, spot⟩ := a
        have hspot : spot = none := by simpa [Addr.add] using World.cell?_spot (hall 0 (by omega)).1
        subst hspot
        have hadd : ∀ j, (⟨b, off, none⟩ : Addr).add j = ⟨b, off + j, none⟩ := fun j => by unfold Addr.add; split <;> simp_all
        refine .inr ⟨b, off, rfl, ?_, fun i t ht => ?_⟩
        · have h1 := (hall 0 (by omega)).1
          apply Decidable.byContradiction
          intro hn
          unfold World.cell? at h1
          simp [Array.getElem?_eq_none (show W.heap.size ≤ b by omega), hadd] at h1
        · obtain ⟨hi, rfl⟩ := hat i t ht
          obtain ⟨k0, k1, _⟩ := hall i (by omega)
          rw [hadd] at k0 k1
          obtain ⟨e0, e1, _⟩ := hone i hi
          exact ⟨by rw [k0, ← e0], by rw [Nat.add_assoc, k1, ← e1]⟩
    · obtain ⟨i, hi⟩ := List.getElem?_of_mem ht
      obtain ⟨hi2, rfl⟩ := hat i t hi
      obtain ⟨_, _, e2, e3, e4⟩ := hone i hi2
      have := hbulk i hi2
      exact ⟨e2, e3, by simp only; omega⟩
theorem LinC.mono {W : World} {B C : Nat} {a : Option Addr} {c : Nat} {x : Lin} (h : LinC W B a c x) (hBC : B ≤ C) : LinC W C a c x :=
  ⟨h.lies, h.lo, h.hi, by have := h.few; omega, fun t ht => ⟨(h.each t ht).1, (h.each t ht).2.1, by have := (h.each t ht).2.2; omega⟩, h.nil⟩
theorem LinC.src {W : World} {B : Nat} {a : Option Addr} {c : Nat} {x : Lin} (h : LinC W B a c x) : Src W (.slice a x.terms.length c) x.terms.length (rowT x.terms) := by
  rcases h.lies with h0 | ⟨g, o, rfl, hg, h1⟩
  · rw [h0]
    cases a with
    | none => exact .inl ⟨by rw [h.nil rfl]; rfl, rfl, rfl⟩
    | some y => exact .inr ⟨y, c, rfl, fun j u hj => (by simp [rowT] at hj)⟩
  · refine .inr ⟨_, c, rfl, fun j u hj => ?_⟩
    have hl : (rowT x.terms).length = x.terms.length * 2 := by
      unfold rowT
      generalize x.terms = l
      induction l with
      | nil => rfl
      | cons t l ih => rw [List.flatMap_cons, List.length_append, ih, List.length_cons]; show 2 + _ = _; omega
    have hj2 : j < x.terms.length * 2 := by
      have := (List.getElem?_eq_some_iff.1 hj).1
      omega
    have hq : j / 2 < x.terms.length := by omega
    have ht := List.getElem?_eq_getElem hq
    have hat := h1 (j / 2) _ ht
    have hfl := flat_at Tm.cells 2 (fun _ => rfl) x.terms (j / 2)
    unfold rowT at hj
    have hadd : (⟨g, o, none⟩ : Addr).add j = ⟨g, o + j, none⟩ := by
      unfold Addr.add
      split <;> simp_all
    rw [hadd]
    rcases Nat.mod_two_eq_zero_or_one j with hm | hm
    · have hf := hfl 0 _ ht (by omega)
      rw [show j / 2 * 2 + 0 = j by omega, hj] at hf
      have h3 := hat.name
      rw [show o + j / 2 * 2 = o + j by omega] at h3
      rw [h3]
      exact hf.symm
    · have hf := hfl 1 _ ht (by omega)
      rw [show j / 2 * 2 + 1 = j by omega, hj] at hf
      have h3 := hat.coef
      rw [show o + j / 2 * 2 + 1 = o + j by omega] at h3
      rw [h3]
      exact hf.symm
theorem add_none (b off j : Nat) : (⟨b, off, none⟩ : Addr).add j = ⟨b, off + j, none⟩ := by
  unfold Addr.add
  split <;> simp_all
theorem cells_at {W : World} {b off k : Nat} {cs : List Value} (h : W.cells? 0 ⟨b, off, none⟩ k = some cs) : ∀ j, j < k → W.cell? ⟨b, off + j, none⟩ = cs[j]? := fun j hj => by
  rw [← (World.cells?_some h).2.2 j hj, add_none]
theorem plain_addr {W : World} {a : Addr} {k : Nat} {cs : List Value} (hk : 0 < k) (h : W.cells? 0 a k = some cs) : ∃ g o, a = ⟨g, o, none⟩ ∧ g < W.heap.size := by
  obtain ⟨h1, h2, h3⟩ := World.cells?_some h
  have h0 := h3 0 hk
  rw [List.getElem?_eq_getElem (by omega)] at h0
  have hs := World.cell?_spot h0
  obtain ⟨b, off, spot⟩ := a
  have hspot : spot = none := by simpa [Addr.add] using hs
  subst hspot
  exact ⟨b, off, rfl, World.cells?_block h hk⟩
structure EqC (W : World) (B : Nat) (cs : List Value) (q : List UInt8 × Lin) (va : Option Addr) (vc : Nat) : Prop where
  is : cs = [.string (str q.1), .slice va q.2.terms.length vc, .int .u32 q.2.const]
  name : q.1.length ≤ B
  lin : LinC W B va vc q.2
theorem open_eqC {H : Type} {enc : TypeId × Value → H} {W : World} {cs : List Value} {d : DataW H} {p : List MemPlace} {fuel : Nat}
    (hf : DataW.trod enc Try.prog W 0 (fun _ => true) true fuel 31 cs = some (d, p)) :
    ∃ q va vc, EqC W (Rows.uptoBulk d) cs q va vc := by
  obtain ⟨y0, y1, n, hx, hl, t0, t1⟩ := trod_struct2 Try.underlying31 hf
  rw [cel101] at hl
  obtain ⟨c0, c1, c2, rfl⟩ := list3 hl
  simp only [cel9, cel89, List.drop, List.take] at t0 t1
  obtain ⟨s, e1, f1, _⟩ := DataW.trod_string Try.underlying9 t0
  simp only [List.cons.injEq, and_true] at e1
  subst e1
  obtain ⟨d1, p1⟩ := y1
  obtain ⟨va, vc, L, rfl, rfl, hL⟩ := open_linC t1
  simp only [Prod.mk.injEq] at hx
  obtain ⟨rfl, _⟩ := hx
  have hB3 : Rows.uptoBulk d1 ≤ Rows.uptoBulk (DataW.agg [y0.1, d1]) := by
    simp only [Rows.uptoBulk, Rows.uptoBulkAll]
    omega
  have hB1 : s.data.toList.length ≤ Rows.uptoBulk (DataW.agg [y0.1, d1]) := by
    rw [f1]
    simp only [Rows.uptoBulk, Rows.uptoBulkAll]
    omega
  exact ⟨(s.data.toList, L), va, vc, ⟨by simp [← str_bytes], hB1, hL.mono hB3⟩⟩
def EqSr (w : World) (a : Option Addr) (l : List (List UInt8 × Lin)) : Prop := l = [] ∨ ∃ g o, a = some ⟨g, o, none⟩ ∧ g < w.heap.size ∧ ∀ (i : Nat) (q : List UInt8 × Lin), l[i]? = some q → ∃ va vc, w.cell? ⟨g, o + i * 3, none⟩ = some (.string (str q.1)) ∧ w.cell? ⟨g, o + i * 3 + 1, none⟩ = some (.slice va q.2.terms.length vc) ∧ w.cell? ⟨g, o + i * 3 + 2, none⟩ = some (.int .u32 q.2.const) ∧ Src w (.slice va q.2.terms.length vc) q.2.terms.length (rowT q.2.terms)
theorem nms_bulk {H : Type} : ∀ (l : List Eqv) (ds : List (DataW H)), l.length = ds.length → (∀ (i : Nat) (q : Eqv), l[i]? = some q → ∃ d, ds[i]? = some d ∧ q.2.terms.length ≤ Rows.uptoBulk d) → (nmsOf l).length ≤ Rows.uptoBulkAll ds
  | [], ds, _, _ => Nat.zero_le _
  | q :: l, [], h, _ => by cases h
  | q :: l, d :: ds, h, h2 => by
    have h3 := nms_bulk l ds (by simpa using h) (fun i q' hq => h2 (i + 1) q' (by simpa using hq))
    obtain ⟨d', e, h4⟩ := h2 0 q rfl
    cases e
    show ((q.2.terms.map (·.name)) ++ nmsOf l).length ≤ _
    simp only [List.length_append, List.length_map, Rows.uptoBulkAll]
    omega
theorem open_equs {H : Type} {enc : TypeId × Value → H} {W : World} {c : Value} {d : DataW H} {p : List MemPlace} {fuel : Nat}
    (hf : DataW.trod enc Try.prog W 0 (fun _ => true) true fuel 22 [c] = some (d, p)) :
    ∃ a vc l, c = .slice a l.length vc ∧ EqIn W a l ∧ l.length ≤ Rows.uptoBulk d ∧ l.length ≤ vc ∧ vc ≤ maxLen ∧ (∀ q ∈ l, ∃ va vc, EqC W (Rows.uptoBulk d) [.string (str q.1), .slice va q.2.terms.length vc, .int .u32 q.2.const] q va vc) ∧ EqSr W a l ∧ (nmsOf l).length ≤ Rows.uptoBulk d := by
  rcases Deep.open_slice Try.underlying22 hf with ⟨hc, hx⟩ | ⟨a, len, cap, m, n, D, Pl, hc, _, hlc, hcm, hm, hx, hall⟩
  · simp only [List.cons.injEq, and_true] at hc
    subst hc
    exact ⟨none, 0, [], rfl, .inl rfl, Nat.zero_le _, Nat.le_refl _, Nat.zero_le _, (fun x hx => by cases hx), .inl rfl, Nat.zero_le _⟩
  · simp only [List.cons.injEq, and_true] at hc
    subst hc
    simp only [if_true] at hm
    subst hm
    simp only [Prod.mk.injEq] at hx
    obtain ⟨rfl, _⟩ := hx
    simp only [cel101] at hall
    have hfew := bulk_all ((List.range len).map D)
    simp only [List.length_map, List.length_range] at hfew
    have hB : Rows.uptoBulkAll ((List.range len).map D) ≤ Rows.uptoBulk (DataW.slice ((List.range len).map D) ((List.range (m - len)).map fun j => D (len + j))) := by
      simp only [Rows.uptoBulk]
      omega
    have heach : ∀ i, i < len → ∃ q : List UInt8 × Lin, ∃ cs va vc, W.cells? 0 (a.add (i * 3)) 3 = some cs ∧ EqC W (Rows.uptoBulk (DataW.slice ((List.range len).map D) ((List.range (m - len)).map fun j => D (len + j)))) cs q va vc ∧ q.2.terms.length ≤ Rows.uptoBulk (D i) := fun i hi => by
      obtain ⟨cs, h1, h2⟩ := hall i (by omega)
      obtain ⟨x, va, vc, hx⟩ := open_eqC h2
      have hb := bulk_mem ((List.range len).map D) (D i) (List.mem_map.2 ⟨i, List.mem_range.2 hi, rfl⟩)
      exact ⟨x, cs, va, vc, h1, ⟨hx.is, by have := hx.name; omega, hx.lin.mono (by omega)⟩, hx.lin.few⟩
    obtain ⟨l, hl, hP⟩ := list_each heach
    have hnm : (nmsOf l).length ≤ Rows.uptoBulkAll ((List.range len).map D) := nms_bulk l _ (by simp [hl]) (fun i q hq => by
      obtain ⟨cs, va, vc, _, _, h3⟩ := hP i q hq
      have hi : i < len := by rw [← hl]; exact (List.getElem?_eq_some_iff.1 hq).1
      exact ⟨D i, by rw [List.getElem?_map, List.getElem?_range hi]; rfl, h3⟩)
    refine ⟨some a, m, l, by rw [hl], ?_, by omega, by omega, hcm, fun x hx => ?_, ?_, by omega⟩
    · by_cases h0 : l = []
      · exact .inl h0
      · have hpos : 0 < l.length := List.length_pos_iff.2 h0
        obtain ⟨_, cs0, va0, vc0, hc0, _, _⟩ := heach 0 (by omega)
        rw [Nat.zero_mul, show a.add 0 = a from by simp [Addr.add]] at hc0
        obtain ⟨g, o, rfl, hg⟩ := plain_addr (by omega) hc0
        refine .inr ⟨g, o, rfl, hg, fun i x hx => ?_⟩
        obtain ⟨cs, va, vc, h1, h2, _⟩ := hP i x hx
        rw [add_none] at h1
        have hcl := cells_at h1
        rw [h2.is] at hcl
        exact ⟨va, vc, hcl 0 (by omega), hcl 1 (by omega), hcl 2 (by omega), h2.lin.lies⟩
    · obtain ⟨i, hi⟩ := List.getElem?_of_mem hx
      obtain ⟨cs, va, vc, h1, h2, _⟩ := hP i x hi
      exact ⟨va, vc, rfl, h2.name, h2.lin⟩
    · by_cases h0 : l = []
      · exact .inl h0
      · have hpos : 0 < l.length := List.length_pos_iff.2 h0
        obtain ⟨_, cs0, va0, vc0, hc0, _, _⟩ := heach 0 (by omega)
        rw [Nat.zero_mul, show a.add 0 = a from by simp [Addr.add]] at hc0
        obtain ⟨g, o, rfl, hg⟩ := plain_addr (by omega) hc0
        refine .inr ⟨g, o, rfl, hg, fun i x hx => ?_⟩
        obtain ⟨cs, va, vc, h1, h2, _⟩ := hP i x hx
        rw [add_none] at h1
        have hcl := cells_at h1
        rw [h2.is] at hcl
        exact ⟨va, vc, hcl 0 (by omega), hcl 1 (by omega), hcl 2 (by omega), h2.lin.src⟩
end Go.Proofs.Ytebbbefknfldoaa
namespace Go.Proofs.Ytebbbefknfldoaa
open Go.ChangeShapes Go.WideShapes Go.ChangeAt Go.RowKit Go.Sort
set_option linter.unusedVariables false
set_option linter.unusedSimpArgs false
set_option maxRecDepth 100000
theorem own_keptB {w w' : World} {B : Nat} {e : TypeId} {size : Nat} {v : Value} {n : Nat} {xs : List Value} (h : w.ownsRow B e size v n xs) (hb : Below w.heap.size w w') : w'.ownsRow B e size v n xs := by
  refine ⟨h.1, ?_⟩
  rcases h.2 with h | ⟨g, cap, cu, h1, hB, hh, hr⟩
  · exact .inl h
  · exact .inr ⟨g, cap, cu, h1, hB, (hb.block g (wblk_lt hh)).trans hh, hr⟩
theorem cell_ltK {w : World} {p : Addr} {v : Value} (h : w.cell? p = some v) : p.block < w.heap.size := by
  apply Decidable.byContradiction
  intro hn
  unfold World.cell? at h
  simp [Array.getElem?_eq_none (show w.heap.size ≤ p.block by omega)] at h
theorem Src.belowK {w w' : World} {v : Value} {m : Nat} {xs : List Value} (h : Src w v m xs) (hb : Below w.heap.size w w') : Src w' v m xs := by
  rcases h with h | ⟨a, c, rfl, h⟩
  · exact .inl h
  · exact .inr ⟨a, c, rfl, fun j u hj => (hb.cell (cell_ltK (h j u hj))).trans (h j u hj)⟩
theorem two_readK {T : TypeId} {w : World} {g : Nat} {v0 v1 : Value} (h : w.heap[g]? = some (.cells #[v0, v1] T (0, 0))) : w.cell? ⟨g, 0, none⟩ = some v0 ∧ w.cell? ⟨g, 1, none⟩ = some v1 := ⟨(two_of h).c0, (two_of h).c1⟩
theorem two_rowsK (w : World) (A C : Array Value) (T1 T2 : TypeId) : ((w.alloc (.cells A T1)).alloc (.cells C T2)).heap[w.heap.size]? = some (.cells A T1 (0, 0)) ∧ ((w.alloc (.cells A T1)).alloc (.cells C T2)).heap[w.heap.size + 1]? = some (.cells C T2 (0, 0)) := by
  refine ⟨?_, ?_⟩
  · rw [Below.heap_alloc _ _ _ (by simp)]
    exact heap_alloc_new w _
  · have := heap_alloc_new (w.alloc (.cells A T1)) (.cells C T2)
    simpa using this
theorem rowT_lenK (ts : List Tm) : (rowT ts).length = ts.length * 2 := by
  induction ts with
  | nil => rfl
  | cons t r ih => rw [show rowT (t :: r) = t.cells ++ rowT r from rfl, List.length_append, ih, List.length_cons]; show 2 + _ = _; omega
theorem info49 : (Try.prog.info? 49).map (fun i => (i.zero, i.size, i.bytes)) = some (some (.agg #[.string ⟨#[]⟩, .int .u32 0]), 2, 24) := by kernel_rfl
theorem own_voidK (w : World) (T : TypeId) (sz : Nat) : (w.alloc (.cells #[] T)).ownsRow w.heap.size T sz (.slice (some ⟨w.heap.size, 0, none⟩) 0 0) 0 [] :=
  ⟨by simp, .inr ⟨w.heap.size, 0, #[], rfl, Nat.le_refl _, heap_alloc_new w _, Nat.le_refl _, by decide, by simp, by simp⟩⟩
set_option maxHeartbeats 4000000 in
theorem copyLin_any (a : Option Addr) (n c : Nat) (x : Lin) (hn : n = x.terms.length) (hl : n ≤ 9000000) (w : World) (hS : Src w (.slice a n c) n (rowT x.terms)) :
    Calls Try.prog 39 #[linV (.slice a n c) x.const] w fun e w' => ∃ a' c', e = .returned (linV (.slice a' n c') x.const) ∧ w'.ownsRow w.heap.size 49 2 (.slice a' n c') n (rowT x.terms) ∧ Below w.heap.size w w' := by
  have hB0 : Below w.heap.size w ((w.alloc (.cells #[.slice a n c, .int .u32 x.const] 29)).alloc (.cells #[.slice none 0 0, .int .u32 0] 29)) := (below_alloc w _).alloc (by simp) _
  have hS0 := Hid.intro (hS.belowK hB0)
  have hrows := two_rowsK w #[.slice a n c, .int .u32 x.const] #[.slice none 0 0, .int .u32 0] 29 29
  have hs0 : ((w.alloc (.cells #[.slice a n c, .int .u32 x.const] 29)).alloc (.cells #[.slice none 0 0, .int .u32 0] 29)).heap.size = w.heap.size + 2 := by simp
  have hrl : Hid ((rowT x.terms).length = n * 2) := by rw [hn]; exact Hid.intro (rowT_lenK _)
  have hone := Hid.intro (rowT_one x.terms)
  obtain ⟨i0, hi, hz0, hz1, hz2⟩ := info_parts info49
  clear hS hn
  go_enter Try.func39, Try.ntmps39
  go_wp2
  all_goals first | omega | skip
  obtain ⟨c0, c1⟩ := two_readK hrows.1
  have hBH := Hid.intro hB0
  have hr1 := Hid.intro hrows.1
  have hr2 := Hid.intro hrows.2
  clear hrows hB0
  generalize ((w.alloc (.cells #[.slice a n c, .int .u32 x.const] 29)).alloc (.cells #[.slice none 0 0, .int .u32 0] 29)) = W0 at *
  have hown : Hid ((W0.alloc (.cells #[] 49)).drew.ownsRow W0.heap.size 49 2 (.slice (some ⟨w.heap.size + 2, 0, none⟩) 0 0) 0 []) := by
    have := own_voidK W0 49 2
    rw [hs0] at this
    rw [hs0]
    exact own_keptB this (Below.refl _ _).drew
  have hB1 : Hid (Below W0.heap.size W0 (W0.alloc (.cells #[] 49)).drew) := (below_alloc W0 _).drew
  have n1 : ¬ w.heap.size + 1 = w.heap.size := by omega
  go_region_held3 (fun W => W.cell? ⟨w.heap.size, 0, none⟩ = some (.slice a n c) ∧ W.cell? ⟨w.heap.size, 1, none⟩ = some (.int .u32 x.const)) (go_keep)
    ((first | (refine step_app _ rfl (.tmp 3) (.tmp 5) 26 rfl W0.heap.size 49 i0 _ 2 24 Try.underlying26 hi hz0 hz1 hz2 rfl (by decide) (.slice (some ⟨w.heap.size + 2, 0, none⟩) 0 0) 0 [] rfl hown.out (.slice a n c) n (rowT x.terms) rfl (hS0.out.belowK hB1.out) hrl.out hone.out (by unfold maxLen; omega) (by omega) hB1.out.size ?_; intro v' w3 ho hg hw; have hB3 : Hid (Below W0.heap.size W0 w3) := (hB1.out.grown hg hB1.out.size (fun j hj => (hown.out.lt _ hj).1)); obtain ⟨m0, m1⟩ := two_readK ((hB3.out.block _ (wblk_lt hr1.out)).trans hr1.out); have hr3 := Hid.intro ((hB3.out.block _ (wblk_lt hr2.out)).trans hr2.out); have hf := fun j => frozen_of_row w3 (w.heap.size + 1) j _ 29 hr3.out; obtain ⟨m2, m3⟩ := two_readK hr3.out; obtain ⟨a3, e3, rfl⟩ := own_slice ho; replace ho := Hid.intro ho; clear hg hw)))
  obtain ⟨r1, r2⟩ := row_set hr3.out 0 (.slice a3 n e3)
  obtain ⟨r3, r4⟩ := row_set r1 1 (.int .u32 x.const)
  have hrow : Hid (((w3.setCell ⟨w.heap.size + 1, 0, none⟩ (.slice a3 n e3)).setCell ⟨w.heap.size + 1, 1, none⟩ (.int .u32 x.const)).heap[w.heap.size + 1]? = some (.cells #[.slice a3 n e3, .int .u32 x.const] 29 (0, 0))) := r3
  have hgr := grown_trans r2 r4
  have hown4 := Hid.intro (own_low (by have := ho.out; rw [Nat.zero_add] at this; exact this) hgr (by omega : w.heap.size + 1 < W0.heap.size))
  have hB4 : Hid (Below w.heap.size w ((w3.setCell ⟨w.heap.size + 1, 0, none⟩ (.slice a3 n e3)).setCell ⟨w.heap.size + 1, 1, none⟩ (.int .u32 x.const))) := (hBH.out.trans (hB3.out.mono hBH.out.size)).grown hgr (Nat.le_trans hBH.out.size hB3.out.size) (fun j hj => by cases hj; omega)
  have hlow : Hid (w.heap.size ≤ W0.heap.size) := hBH.out.size
  clear r1 r2 r3 r4 hgr ho hB3 hr3 hf m0 m1 m2 m3 c0 c1 hown hB1 hr1 hr2 hS0
  generalize ((w3.setCell ⟨w.heap.size + 1, 0, none⟩ (.slice a3 n e3)).setCell ⟨w.heap.size + 1, 1, none⟩ (.int .u32 x.const)) = w4 at *
  obtain ⟨z0, z1⟩ := two_readK hrow.out
  go_wp2
  refine bodyPost_ret (by simp [results, Try.results39, go_sem, z0, z1]; try rfl) rfl ?_
  exact ⟨a3, e3, rfl, own_weaken hown4.out hlow.out, hB4.out⟩
theorem made0 (w : World) : (Instr.makeSlice 55 (.int .i64 0) (.int .i64 0)).run Try.prog w = .ok (.slice (some ⟨w.heap.size, 0, none⟩) 0 0) (w.alloc (.cells #[] 99)) := by
  have h : Try.prog.underlying 55 = some (.slice 99) := by kernel_rfl
  obtain ⟨i0, hi, hz0, hz1, hz2⟩ := info_parts (P := Try.prog) (e := 99) (z := .agg #[.int .i64 0, .string ⟨#[]⟩, .int .i64 0, .int .i64 0, .int .i64 0, .int .i32 0, .int .i64 0, .slice none 0 0, .int .u32 0, .int .i64 0]) (size := 10) (bytes := 104) (by kernel_rfl)
  have h := run_make (P := Try.prog) w 55 99 i0 _ h hi hz0 .i64 .i64 0 0 (by omega) (by omega) (by rw [hz2]; omega) (by omega)
  have e : ∀ Z : Array Value, madeCells Z (Int.toNat 0 * 10) = #[] := fun Z => Array.eq_empty_of_size_eq_zero (by simp [size_madeCells])
  rw [hz1, e] at h
  exact h
theorem copyItems_nil (w : World) : Calls Try.prog 38 #[.slice none 0 0] w fun e w' => e = .returned (.slice (some ⟨w.heap.size, 0, none⟩) 0 0) ∧ w' = w.alloc (.cells #[] 99) := by
  have hm := made0
  go_enter Try.func38, Try.ntmps38
  go_wp2
  all_goals first | omega | skip
  go_loopw [4] (fun v4 wr => v4 = .int .i64 0 ∧ wr = w.alloc (.cells #[] 99)) (fun _ _ => 0)
  case atStart => exact ⟨rfl, rfl⟩
  case round =>
    obtain ⟨rfl, rfl⟩ := hrel
    go_wp2
    all_goals first | omega | skip
    go_ret
    exact ⟨rfl, rfl⟩
end Go.Proofs.Ytebbbefknfldoaa
