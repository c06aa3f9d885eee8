/- PROVED, where the item that comes in holds at most 1048576 values and letters: item.Right answers as the document's Right, whatever the item and the section: chapter 8's P8.2 (spandrellaw8.ItemRight returns true). Conditions: that bound, and the listed tables as the program's text lays them. -/
import Derived.Test.YtlkmegchaeokgaaGreatDoorConcat
import Derived.Deep.SlicePairs
import Derived.ChangeArms
import Derived.Test.YtlkmegchaeokgaaGreatDoorT6
import Derived.Test.YtlkmegchaeokgaaGreatDoorK5
import Derived.Test.YtlkmegchaeokgaaGreatDoorIFrame
import Derived.ShutString
import Derived.ChangeOld
import Derived.JoinedCond
/- How a Lin that came in is opened: its terms lie in memory; what the bound on its bulk gives. -/
namespace Go.Proofs.YtlkmegchaeokgaaGreatDoor
open Go.ChangeShapes Go.WideShapes Go.ChangeAt Go.RowKit
set_option linter.unusedVariables false
set_option maxRecDepth 100000

theorem cells25 : Tryz.prog.cellsOf 31 = 2 := by kernel_rfl
theorem cells22 : Tryz.prog.cellsOf 28 = 1 := by kernel_rfl
theorem cells56 : Tryz.prog.cellsOf 61 = 2 := by kernel_rfl
theorem cells9 : Tryz.prog.cellsOf 9 = 1 := by kernel_rfl
theorem cells23 : Tryz.prog.cellsOf 29 = 1 := by kernel_rfl

theorem bulk_pos {H : Type} (d : DataW H) : 1 ≤ Rows.uptoBulk d := by
  cases d with
  | lit l => cases l <;> simp [Rows.uptoBulk]
  | nil => simp [Rows.uptoBulk]
  | ptr d => simp [Rows.uptoBulk]
  | slice elems spare => simp [Rows.uptoBulk]
  | agg parts => simp [Rows.uptoBulk]
  | iface t d => simp [Rows.uptoBulk]
  | map entries => simp [Rows.uptoBulk]
  | held h => simp [Rows.uptoBulk]
theorem bulk_all {H : Type} (l : List (DataW H)) : l.length ≤ Rows.uptoBulkAll l := by
  induction l with
  | nil => simp [Rows.uptoBulkAll]
  | cons x r ih =>
    have := bulk_pos x
    simp only [Rows.uptoBulkAll, List.length_cons]
    omega
theorem bulk_mem {H : Type} (l : List (DataW H)) (d : DataW H) (h : d ∈ l) : Rows.uptoBulk d ≤ Rows.uptoBulkAll l := by
  induction l with
  | nil => cases h
  | cons x r ih =>
    simp only [Rows.uptoBulkAll]
    rcases List.mem_cons.1 h with rfl | h
    · omega
    · have := ih h
      omega

def nameV : Value → List UInt8
  | .string s => s.data.toList
  | _ => []

/-- what a Lin that came in is -/
structure LinIn (W : World) (v : Value) (N : Nat) (a : Option Addr) (c : Nat) (ts : List Tm) (k : Int) : Prop where
  is : v = linV (.slice a ts.length c) k
  held : Held W a c ts
  lo : 0 ≤ k
  hi : k < 4294967296
  few : ts.length ≤ N
  each : ∀ t ∈ ts, 0 ≤ t.coef ∧ t.coef < 4294967296 ∧ t.name.length ≤ N
  cap : ts.length ≤ c
  most : c ≤ maxLen

theorem open_lin {H : Type} {enc : TypeId × Value → H} {W : World} {base : Nat} {v : Value} {d : DataW H} {p : List MemPlace}
    (hval : Value.okWide Tryz.prog W .any base 31 v) (h : DataW.Trod enc Tryz.prog W 0 (fun _ => true) true 31 v d p) :
    ∃ a c ts k, LinIn W v (Rows.uptoBulk d) a c ts k := by
  obtain ⟨cs, rfl, hcs⟩ := okWide_struct Tryz.underlying31 hval
  rw [cells25] at hcs
  obtain ⟨fuel, hf⟩ := h
  have hlt : ∀ x ∈ p, x.block < W.heap.size := DataW.trod_lt fuel _ _ _ hf
  obtain ⟨y0, y1, n, hx, hl, t0, t1⟩ := trod_struct2 Tryz.underlying31 hf
  obtain ⟨cs⟩ := cs
  match cs, hcs with
  | [c0, c1], _ =>
    simp only [Value.cells, cells22, cells23, List.drop, List.take] at t0 t1
    obtain ⟨k, hk, rfl, wk⟩ := DataW.trod_int Tryz.underlying29 t1
    simp only [List.cons.injEq, and_true] at hk
    subst hk
    have hb := bounds_u32 wk
    simp only [Prod.mk.injEq] at hx
    obtain ⟨rfl, rfl⟩ := hx
    rcases Deep.open_slice_pairs Tryz.underlying28 Tryz.underlying61 cells56 rfl rfl cells9 cells23 t0 with ⟨hc, rfl⟩ | ⟨a, len, cap, m, n', V0, V1, D0, D1, P0, P1, hc, _, hlc, hcm, hm, rfl, hall⟩
    · simp only [List.cons.injEq, and_true] at hc
      subst hc
      exact ⟨none, 0, [], k, ⟨rfl, ⟨.inl rfl, fun _ => ⟨rfl, rfl⟩⟩, hb.1, by omega, Nat.zero_le _, (fun t ht => by (cases ht)), Nat.le_refl _, Nat.zero_le _⟩⟩
    · simp only [List.cons.injEq, and_true] at hc
      subst hc
      simp only [if_true] at hm
      subst hm
      have hone : ∀ i, i < len → V0 i = .string (str (nameV (V0 i))) ∧ V1 i = .int .u32 (intOf (V1 i)) ∧ 0 ≤ intOf (V1 i) ∧ intOf (V1 i) < 4294967296 ∧ (nameV (V0 i)).length + 1 ≤ Rows.uptoBulk (D0 i) := fun i hi => by
        obtain ⟨_, _, h0, h1⟩ := hall i (by omega)
        obtain ⟨s, e0, e1, _⟩ := DataW.trod_string Tryz.underlying9 h0
        obtain ⟨z, e2, e3, wz⟩ := DataW.trod_int Tryz.underlying29 h1
        simp only [List.cons.injEq, and_true] at e0 e2
        simp only [Prod.mk.injEq] at e1 e3
        rw [e0, e2, e1.1]
        have := bounds_u32 wz
        refine ⟨?_, rfl, this.1, by simp only [intOf]; omega, by simp [nameV, Rows.uptoBulk]⟩
        simp [nameV, str]
      have hbulk : ∀ i, i < len → Rows.uptoBulk (D0 i) + 1 ≤ Rows.uptoBulkAll ((List.range len).map fun i => DataW.agg [D0 i, D1 i]) := fun i hi => by
        have := bulk_mem ((List.range len).map fun i => DataW.agg [D0 i, D1 i]) (.agg [D0 i, D1 i]) (List.mem_map.2 ⟨i, List.mem_range.2 hi, rfl⟩)
        simp only [Rows.uptoBulk, Rows.uptoBulkAll] at this
        omega
      have hfew := bulk_all ((List.range len).map fun i => DataW.agg [D0 i, D1 i])
      simp only [List.length_map, List.length_range] at hfew
      have hB : Rows.uptoBulkAll ((List.range len).map fun i => DataW.agg [D0 i, D1 i]) ≤ Rows.uptoBulk (DataW.agg [DataW.slice ((List.range len).map fun i => DataW.agg [D0 i, D1 i]) ((List.range (m - len)).map fun j => DataW.agg [D0 (len + j), D1 (len + j)]), DataW.lit (Lit.int IntKind.u32 k)]) := by
        simp only [Rows.uptoBulk, Rows.uptoBulkAll]
        omega
      have hat : ∀ i t, ((List.range len).map fun i => (⟨nameV (V0 i), intOf (V1 i)⟩ : Tm))[i]? = some t → i < len ∧ t = ⟨nameV (V0 i), intOf (V1 i)⟩ := fun i t ht => by
        rw [List.getElem?_map, Option.map_eq_some_iff] at ht
        obtain ⟨j, hj, rfl⟩ := ht
        obtain ⟨hj1, hj2⟩ := List.getElem?_eq_some_iff.1 hj
        simp at hj1 hj2
        subst hj2
        exact ⟨hj1, rfl⟩
      refine ⟨some a, m, (List.range len).map fun i => ⟨nameV (V0 i), intOf (V1 i)⟩, k, ⟨by simp [linV], ⟨?_, fun h => by cases h⟩, hb.1, by omega, by simp; omega, fun t ht => ?_, by simpa using hlc, hcm⟩⟩
      · by_cases h0 : len = 0
        · subst h0
          exact .inl rfl
        · obtain ⟨b, off, spot⟩ := a
          have hspot : spot = none := by simpa [Addr.add] using World.cell?_spot (hall 0 (by omega)).1
          subst hspot
          have hadd : ∀ j, (⟨b, off, none⟩ : Addr).add j = ⟨b, off + j, none⟩ := fun j => by unfold Addr.add; split <;> simp_all
          refine .inr ⟨b, off, rfl, ?_, fun i t ht => ?_⟩
          · have h1 := (hall 0 (by omega)).1
            apply Decidable.byContradiction
            intro hn
            unfold World.cell? at h1
            simp [Array.getElem?_eq_none (show W.heap.size ≤ b by omega), hadd] at h1
          · obtain ⟨hi, rfl⟩ := hat i t ht
            obtain ⟨k0, k1, _⟩ := hall i (by omega)
            rw [hadd] at k0 k1
            obtain ⟨e0, e1, _⟩ := hone i hi
            exact ⟨by rw [k0, ← e0], by rw [Nat.add_assoc, k1, ← e1]⟩
      · obtain ⟨i, hi⟩ := List.getElem?_of_mem ht
        obtain ⟨hi2, rfl⟩ := hat i t hi
        obtain ⟨_, _, e2, e3, e4⟩ := hone i hi2
        have := hbulk i hi2
        exact ⟨e2, e3, by simp only; omega⟩
end Go.Proofs.YtlkmegchaeokgaaGreatDoor
/- The law's walk: item.Right and the document's answer alike. -/
namespace Go.Proofs.YtlkmegchaeokgaaGreatDoor
open Go.ChangeShapes Go.WideShapes Go.ChangeAt Go.RowKit
set_option linter.unusedVariables false
set_option maxRecDepth 100000

set_option maxHeartbeats 2000000 in
theorem itemRightW (k : Int) (s : ByteArray) (hs : s.size ≤ 1100000) (op a b m f : Int) (hm : -2147483648 ≤ m ∧ m ≤ 2147483647) (va : Option Addr) (vc : Nat) (ts : List Tm) (c n sec : Int) (hn : -9223372036854775808 ≤ n ∧ n ≤ 9223372036854775807) (w : World) (hT : Tab w) (hL : TmLies w va ts) (hlen : ts.length ≤ 9000000) (hN : ∀ t ∈ ts, t.name.length ≤ 1100000) :
    Calls Tryz.prog 5 #[itV k s op a b m f va ts.length vc c n, .int .i64 sec] w fun e w' => e = .returned (.bool true) ∧ Below w.heap.size w w' := by
  have h0 : RI w (itA k s op a b m f va ts.length vc c n) (w.alloc (.cells (itA k s op a b m f va ts.length vc c n) 33)) := ⟨below_alloc w _, heap_alloc_new w _, hT.alloc _⟩
  have h9 := fun w1 (h1 : RI w (itA k s op a b m f va ts.length vc c n) w1) => itemRight_any k s hs op a b m f hm va vc ts c n sec hn w1 h1.tab (hL.below h1.bel (Nat.le_refl _)) hlen hN
  have h14 := fun w1 (h1 : RI w (itA k s op a b m f va ts.length vc c n) w1) => docRight_any k s hs op a b m f hm va vc ts c n sec w1 (hL.below h1.bel (Nat.le_refl _)) hlen hN
  have h10 := fun w1 (h1 : RI w (itA k s op a b m f va ts.length vc c n) w1) => itemKnown_any w1 h1.tab
  generalize rightN sec (okB k s op a b m f ts c n sec) = r at h9 h14
  clear hs hm hn hL hN hT
  generalize ts.length = ln at h0 h9 h14 h10 hlen ⊢
  clear hlen
  have hP : Hid (∀ p : BelowOf (w.alloc (.cells (itA k s op a b m f va ln vc c n) 33)), RI w (itA k s op a b m f va ln vc c n) p.wd) := fun p => h0.below p.h
  have c0 := fun p => (rowIt (hP.out p).row).1
  have c1 := fun p => (rowIt (hP.out p).row).2.1
  have c2 := fun p => (rowIt (hP.out p).row).2.2.1
  have c3 := fun p => (rowIt (hP.out p).row).2.2.2.1
  have c4 := fun p => (rowIt (hP.out p).row).2.2.2.2.1
  have c5 := fun p => (rowIt (hP.out p).row).2.2.2.2.2.1
  have c6 := fun p => (rowIt (hP.out p).row).2.2.2.2.2.2.1
  have c7 := fun p => (rowIt (hP.out p).row).2.2.2.2.2.2.2.1
  have c8 := fun p => (rowIt (hP.out p).row).2.2.2.2.2.2.2.2.1
  have c9 := fun p => (rowIt (hP.out p).row).2.2.2.2.2.2.2.2.2
  replace h0 := Hid.intro h0
  replace h9 := Hid.intro h9
  replace h14 := Hid.intro h14
  replace h10 := Hid.intro h10
  go_enter Tryz.func5, Tryz.ntmps5
  go_wp2_with fail
  refine wp_region_quiet_below (by kernel_rfl) (by kernel_rfl) ?_
  repeat (first | (with_reducible refine wpQuiet_skip (by with_unfolding_all rfl) ?_; simp only [Act.put, List.setIfInBounds_toArray, List.set_cons_zero, List.set_cons_succ]) | (with_reducible refine wpQuiet_step (fun K hK => ?_); go_simp; first | (with_reducible refine hK _ ?_; clear hK K) | (apply Exists.intro; refine ⟨fun p => ?_, hK _ ?_⟩; (first | (go_at_call 9; with_reducible refine below_calls (h9.out _ (hP.out p))) | (go_at_call 14; with_reducible refine below_calls (h14.out _ (hP.out p))) | (go_at_call 10; with_reducible refine below_calls (h10.out _ (hP.out p)))); clear hK K)))
  with_reducible refine wpQuiet_nil ?_
  intro _ hw'
  obtain ⟨pq, hw''⟩ := hw'
  subst hw''
  clear c0 c1 c2 c3 c4 c5 c6 c7 c8 c9
  have hend := Hid.intro (hP.out pq).bel
  go_wp2_with fail
  go_ret
  exact ⟨rfl, hend.out⟩

end Go.Proofs.YtlkmegchaeokgaaGreatDoor
/- How an Item that came in is opened. -/
namespace Go.Proofs.YtlkmegchaeokgaaGreatDoor
open Go.ChangeShapes Go.WideShapes Go.ChangeAt Go.RowKit
set_option linter.unusedVariables false
set_option maxRecDepth 100000

theorem open_lin_cells {H : Type} {enc : TypeId × Value → H} {W : World} {c0 c1 : Value} {d : DataW H} {p : List MemPlace} {fuel : Nat}
    (hf : DataW.trod enc Tryz.prog W 0 (fun _ => true) true fuel 31 [c0, c1] = some (d, p)) :
    ∃ a c ts k, LinIn W (.agg #[c0, c1]) (Rows.uptoBulk d) a c ts k := by
  obtain ⟨y0, y1, n, hx, hl, t0, t1⟩ := trod_struct2 Tryz.underlying31 hf
  simp only [cells22, cells23, List.drop, List.take] at t0 t1
  obtain ⟨k, hk, rfl, wk⟩ := DataW.trod_int Tryz.underlying29 t1
  simp only [List.cons.injEq, and_true] at hk
  subst hk
  have hb := bounds_u32 wk
  simp only [Prod.mk.injEq] at hx
  obtain ⟨rfl, rfl⟩ := hx
  rcases Deep.open_slice_pairs Tryz.underlying28 Tryz.underlying61 cells56 rfl rfl cells9 cells23 t0 with ⟨hc, rfl⟩ | ⟨a, len, cap, m, n', V0, V1, D0, D1, P0, P1, hc, _, hlc, hcm, hm, rfl, hall⟩
  · simp only [List.cons.injEq, and_true] at hc
    subst hc
    exact ⟨none, 0, [], k, ⟨rfl, ⟨.inl rfl, fun _ => ⟨rfl, rfl⟩⟩, hb.1, by omega, Nat.zero_le _, (fun t ht => by (cases ht)), Nat.le_refl _, Nat.zero_le _⟩⟩
  · simp only [List.cons.injEq, and_true] at hc
    subst hc
    simp only [if_true] at hm
    subst hm
    have hone : ∀ i, i < len → V0 i = .string (str (nameV (V0 i))) ∧ V1 i = .int .u32 (intOf (V1 i)) ∧ 0 ≤ intOf (V1 i) ∧ intOf (V1 i) < 4294967296 ∧ (nameV (V0 i)).length + 1 ≤ Rows.uptoBulk (D0 i) := fun i hi => by
      obtain ⟨_, _, h0, h1⟩ := hall i (by omega)
      obtain ⟨s, e0, e1, _⟩ := DataW.trod_string Tryz.underlying9 h0
      obtain ⟨z, e2, e3, wz⟩ := DataW.trod_int Tryz.underlying29 h1
      simp only [List.cons.injEq, and_true] at e0 e2
      simp only [Prod.mk.injEq] at e1 e3
      rw [e0, e2, e1.1]
      have := bounds_u32 wz
      refine ⟨?_, rfl, this.1, by simp only [intOf]; omega, by simp [nameV, Rows.uptoBulk]⟩
      simp [nameV, str]
    have hbulk : ∀ i, i < len → Rows.uptoBulk (D0 i) + 1 ≤ Rows.uptoBulkAll ((List.range len).map fun i => DataW.agg [D0 i, D1 i]) := fun i hi => by
      have := bulk_mem ((List.range len).map fun i => DataW.agg [D0 i, D1 i]) (.agg [D0 i, D1 i]) (List.mem_map.2 ⟨i, List.mem_range.2 hi, rfl⟩)
      simp only [Rows.uptoBulk, Rows.uptoBulkAll] at this
      omega
    have hfew := bulk_all ((List.range len).map fun i => DataW.agg [D0 i, D1 i])
    simp only [List.length_map, List.length_range] at hfew
    have hB : Rows.uptoBulkAll ((List.range len).map fun i => DataW.agg [D0 i, D1 i]) ≤ Rows.uptoBulk (DataW.agg [DataW.slice ((List.range len).map fun i => DataW.agg [D0 i, D1 i]) ((List.range (m - len)).map fun j => DataW.agg [D0 (len + j), D1 (len + j)]), DataW.lit (Lit.int IntKind.u32 k)]) := by
      simp only [Rows.uptoBulk, Rows.uptoBulkAll]
      omega
    have hat : ∀ i t, ((List.range len).map fun i => (⟨nameV (V0 i), intOf (V1 i)⟩ : Tm))[i]? = some t → i < len ∧ t = ⟨nameV (V0 i), intOf (V1 i)⟩ := fun i t ht => by
      rw [List.getElem?_map, Option.map_eq_some_iff] at ht
      obtain ⟨j, hj, rfl⟩ := ht
      obtain ⟨hj1, hj2⟩ := List.getElem?_eq_some_iff.1 hj
      simp at hj1 hj2
      subst hj2
      exact ⟨hj1, rfl⟩
    refine ⟨some a, m, (List.range len).map fun i => ⟨nameV (V0 i), intOf (V1 i)⟩, k, ⟨by simp [linV], ⟨?_, fun h => by cases h⟩, hb.1, by omega, by simp; omega, fun t ht => ?_, by simpa using hlc, hcm⟩⟩
    · by_cases h0 : len = 0
      · subst h0
        exact .inl rfl
      · obtain ⟨b, off, spot⟩ := a
        have hspot : spot = none := by simpa [Addr.add] using World.cell?_spot (hall 0 (by omega)).1
        subst hspot
        have hadd : ∀ j, (⟨b, off, none⟩ : Addr).add j = ⟨b, off + j, none⟩ := fun j => by unfold Addr.add; split <;> simp_all
        refine .inr ⟨b, off, rfl, ?_, fun i t ht => ?_⟩
        · have h1 := (hall 0 (by omega)).1
          apply Decidable.byContradiction
          intro hn
          unfold World.cell? at h1
          simp [Array.getElem?_eq_none (show W.heap.size ≤ b by omega), hadd] at h1
        · obtain ⟨hi, rfl⟩ := hat i t ht
          obtain ⟨k0, k1, _⟩ := hall i (by omega)
          rw [hadd] at k0 k1
          obtain ⟨e0, e1, _⟩ := hone i hi
          exact ⟨by rw [k0, ← e0], by rw [Nat.add_assoc, k1, ← e1]⟩
    · obtain ⟨i, hi⟩ := List.getElem?_of_mem ht
      obtain ⟨hi2, rfl⟩ := hat i t hi
      obtain ⟨_, _, e2, e3, e4⟩ := hone i hi2
      have := hbulk i hi2
      exact ⟨e2, e3, by simp only; omega⟩

theorem cells33 : Tryz.prog.cellsOf 33 = 10 := by kernel_rfl
theorem cells31 : Tryz.prog.cellsOf 31 = 2 := by kernel_rfl

theorem list10 {α : Type} {l : List α} (h : l.length = 10) : ∃ a b c d e f g i j k, l = [a, b, c, d, e, f, g, i, j, k] := by
  match l, h with
  | [a, b, c, d, e, f, g, i, j, k], _ => exact ⟨a, b, c, d, e, f, g, i, j, k, rfl⟩

/-- what an Item that came in is -/
structure ItIn (W : World) (v : Value) (B : Nat) (k : Int) (s : ByteArray) (op a b m f : Int) (va : Option Addr) (vc : Nat) (ts : List Tm) (c n : Int) : Prop where
  is : v = itV k s op a b m f va ts.length vc c n
  size : s.size ≤ B
  m : -2147483648 ≤ m ∧ m ≤ 2147483647
  n : -9223372036854775808 ≤ n ∧ n ≤ 9223372036854775807
  held : Held W va vc ts
  few : ts.length ≤ B
  each : ∀ t ∈ ts, t.name.length ≤ B

theorem open_item {H : Type} {enc : TypeId × Value → H} {W : World} {base : Nat} {v : Value} {d : DataW H} {p : List MemPlace}
    (hval : Value.okWide Tryz.prog W .any base 33 v) (h : DataW.Trod enc Tryz.prog W 0 (fun _ => true) true 33 v d p) :
    ∃ k s op a b m f va vc ts c n, ItIn W v (Rows.uptoBulk d) k s op a b m f va vc ts c n := by
  obtain ⟨cs, rfl, hcs⟩ := okWide_struct Tryz.underlying33 hval
  rw [cells33] at hcs
  obtain ⟨fuel, hf⟩ := h
  obtain ⟨y0, y1, y2, y3, y4, n, hx, hl, t0, t1, t2, t3, t4⟩ := trod_struct5 Tryz.underlying33 hf
  obtain ⟨cs⟩ := cs
  obtain ⟨c0, c1, c2, c3, c4, c5, c6, c7, c8, c9, rfl⟩ := list10 (by simpa using hcs)
  simp only [Value.cells, cells3, cells9, cells37, cells31, List.drop, List.take] at t0 t1 t2 t3 t4
  obtain ⟨z0, e0, _, w0⟩ := DataW.trod_int Tryz.underlying3 t0
  obtain ⟨s, e1, f1, _⟩ := DataW.trod_string Tryz.underlying9 t1
  obtain ⟨z9, e9, _, w9⟩ := DataW.trod_int Tryz.underlying3 t4
  obtain ⟨u0, u1, u2, u3, u4, n2, hx2, hl2, s0, s1, s2, s3, s4⟩ := trod_struct5 Tryz.underlying27 t2
  simp only [cells3, cells21, List.drop, List.take] at s0 s1 s2 s3 s4
  obtain ⟨z2, e2, _, w2⟩ := DataW.trod_int Tryz.underlying3 s0
  obtain ⟨z3, e3, _, w3⟩ := DataW.trod_int Tryz.underlying3 s1
  obtain ⟨z4, e4, _, w4⟩ := DataW.trod_int Tryz.underlying3 s2
  obtain ⟨z5, e5, _, w5⟩ := DataW.trod_int Tryz.underlying21 s3
  obtain ⟨z6, e6, _, w6⟩ := DataW.trod_int Tryz.underlying3 s4
  simp only [List.cons.injEq, and_true] at e0 e1 e2 e3 e4 e5 e6 e9
  subst e0 e1 e2 e3 e4 e5 e6 e9
  obtain ⟨d3, p3⟩ := y3
  obtain ⟨va, vc, ts, c, L⟩ := open_lin_cells t3
  have hv := L.is
  simp only [linV, Value.agg.injEq, Array.mk.injEq, List.cons.injEq, and_true] at hv
  obtain ⟨rfl, rfl⟩ := hv
  simp only [Prod.mk.injEq] at hx
  obtain ⟨rfl, _⟩ := hx
  have hB3 : Rows.uptoBulk d3 ≤ Rows.uptoBulk (DataW.agg [y0.1, y1.1, y2.1, d3, y4.1]) := by
    simp only [Rows.uptoBulk, Rows.uptoBulkAll]
    omega
  have hB1 : s.size ≤ Rows.uptoBulk (DataW.agg [y0.1, y1.1, y2.1, d3, y4.1]) := by
    rw [f1]
    simp only [Rows.uptoBulk, Rows.uptoBulkAll]
    have : s.data.toList.length = s.size := by simp
    omega
  have := L.few
  exact ⟨z0, s, z2, z3, z4, z5, z6, va, vc, ts, c, z9, ⟨rfl, hB1, bounds_i32 w5, bounds_i64 w9, L.held, by omega, fun t ht => by have := (L.each t ht).2.2; omega⟩⟩

end Go.Proofs.YtlkmegchaeokgaaGreatDoor
namespace Go.Proofs.YtlkmegchaeokgaaGreatDoor.itemRight
open Go.ChangeShapes Go.WideShapes Go.ChangeAt Go.RowKit
set_option linter.unusedVariables false
set_option maxRecDepth 100000

theorem own : ownKnob Tryz.prog.godebug = none := by kernel_rfl

theorem contract (H : Type) (enc : TypeId × Value → H) (W : World) (base : Nat) (args : Array Value) (ds gs : List (DataW H)) (before : List MemPlace)
    (hval : ∀ (j : Nat) t v, Tryz.f5.params[j]? = some t → args[j]? = some v → Value.okWide Tryz.prog W .any base t v)
    (hW : DataW.Whole enc Tryz.prog Tryz.f5.params.toList Rows.itemRightSpec.vars false W args.toList ds gs before) (hL : laidMetH Tryz.prog Rows.itemRightUptoRow.laid W) (hk : Rows.uptoSmall H (ds ++ gs) = true) :
    Calls Tryz.prog 5 args W fun e W' => ∃ v, e = .returned v ∧ Rows.itemRightSpec.post enc Tryz.prog Tryz.f5 false true false false W args v W' := by
  have hW' := hW
  obtain ⟨p, q, hA0, hV, rfl, hfz, hnd⟩ := hW
  have hA : DataW.TrodAll enc Tryz.prog W 0 (fun _ => true) true Tryz.f5.params.toList args.toList ds p := hA0
  rw [Tryz.params5] at hA hval
  obtain ⟨v0, vs0, d0, ds0, p0, q0, hargs, rfl, rfl, h0, r0⟩ := trodAll_cons hA
  obtain ⟨v1, vs1, d1, ds1, p1, q1, rfl, rfl, rfl, h1, r1⟩ := trodAll_cons r0
  obtain ⟨rfl, rfl, rfl⟩ := trodAll_nil r1
  obtain rfl : args = #[v0, v1] := by cases args; simp_all
  obtain ⟨rfl, rfl⟩ := trodVars_none hV
  have k0 := h0
  have lt0 : ∀ x ∈ p0, x.block < W.heap.size := by obtain ⟨m, hm⟩ := k0; exact DataW.trod_lt m _ _ _ hm
  obtain ⟨k, s, op, a, b, m, f, va, vc, ts, c, n, L⟩ := open_item (hval 0 33 v0 rfl rfl) h0
  obtain ⟨sec, rfl, rfl, rfl, w1⟩ := open_int Tryz.underlying3 (hval 1 3 v1 rfl rfl) h1
  clear hA0
  simp only [List.append_nil] at hk
  have hsum : Rows.uptoBulkAll [d0, .lit (.int .i64 sec)] ≤ 1048576 := of_decide_eq_true hk
  simp only [Rows.uptoBulkAll, Rows.uptoBulk] at hsum
  have f0 := L.few
  have f1 := L.size
  have hgo := itemRightW k s (by omega) op a b m f L.m va vc ts c n sec L.n W (tab_of_laid hL) L.held.lies (by omega) (fun t ht => by have := L.each t ht; omega)
  rw [← L.is] at hgo
  refine hgo.mono fun e W' ⟨he, bel⟩ => ?_
  subst he
  exact ⟨_, rfl, _, _, _, [], _, [], hW', trodAll_mk1 (shut_bool Tryz.underlying4 _), (trodAll_cons_mk (Below.trod laidOut (by kernel_rfl) (of_decide_eq_true (by kernel_rfl)) k0 bel lt0) (trodAll_cons_mk (shut_int Tryz.underlying3 w1) trodAll_mk0)), rfl, bel.frame _, fun h => by cases h⟩

theorem reads (os : Os) {H : Type} (enc : TypeId × Value → H) : ∃ places, DataW.whole enc Tryz.prog ((laidWorld os).forCall (fun _ _ => 0) ⟨#[], #[itV 0 ⟨#[]⟩ 0 0 0 0 0 none 0 0 0 0, .int .i64 0], []⟩).memory Tryz.f5.params.toList Rows.itemRightSpec.vars false #[itV 0 ⟨#[]⟩ 0 0 0 0 0 none 0 0 0 0, .int .i64 0].toList 8 = some ([.agg [.lit (.int .i64 0), .lit (.string []), .agg [.lit (.int .i64 0), .lit (.int .i64 0), .lit (.int .i64 0), .lit (.int .i32 0), .lit (.int .i64 0)], .agg [.nil, .lit (.int .u32 0)], .lit (.int .i64 0)], .lit (.int .i64 0)], [], places) :=
  ⟨[], by kernel_rfl⟩

theorem lifted (os : Os) (started : os.Started) (H : Type) (enc : TypeId × Value → H) (F : Stop.Interp) :
    ReturnsInHanded {} Tryz.checked os 5 .any ((Rows.OpenSpec.upto Rows.itemRightSpec).preRow enc Tryz.prog Tryz.f5 Rows.itemRightUptoRow.domain false Rows.itemRightUptoRow.laid) (((Rows.OpenSpec.upto Rows.itemRightSpec).at F).post enc Tryz.prog Tryz.f5 false true false false) := by
  obtain ⟨places, hx⟩ := reads os enc
  refine returnsInHanded_of_row (C := Tryz.checked) (s := Rows.OpenSpec.upto Rows.itemRightSpec) own started (by kernel_rfl) Tryz.func5
    (witness_row_at (enc := enc) (C := Tryz.checked) false (laidWorld os) #[itV 0 ⟨#[]⟩ 0 0 0 0 0 none 0 0 0 0, .int .i64 0] rfl (by kernel_rfl) (by kernel_rfl) (by kernel_rfl)
      (OpenSpec.preRow_of_cond 8 hx (by kernel_rfl) (fun k hk => by cases hk; kernel_rfl) (by kernel_rfl) (laid_met os _))) ?_
  intro W base args ds gs before hval hW x1 x2 x3 hL x4 x5
  exact contract H enc W base args ds gs before hval hW hL (by first | exact x1 _ rfl | exact x2 _ rfl | exact x3 _ rfl | exact x4 _ rfl | exact x5 _ rfl)

theorem said : Rows.ItemRightUptoSaid :=
  OpenClaim.holds_of_cond 5 Tryz.f5 rfl rfl rfl rfl rfl rfl rfl ⟨rfl, rfl, rfl, rfl, rfl⟩ rfl rfl rfl rfl rfl (by kernel_rfl) Tryz.func5 (by kernel_rfl)
    (of_decide_eq_true (by kernel_rfl)) (by unfold Func.isWrapper; first | (rw [if_pos (by decide +kernel)]; kernel_rfl) | (rw [if_neg (by decide +kernel)]; exact ⟨rfl, rfl⟩))
    (fun os started H enc _ F => by rw [OpenClaim.pre_eq_preRow]; exact lifted os started H enc F)

theorem plain (f : FuncId) (fn : Func) (hf : Tryz.pinned.checked.prog.funcNamed "spandrel/spandrellaw8.ItemRight" = some f) (hfn : Tryz.pinned.checked.prog.funcs[f]? = some fn) :
    true = Tryz.pinned.checked.prog.looks [] ∧ ∀ (j : Nat) t, fn.params[j]? = some t → Tryz.pinned.checked.prog.wantsStandIn t = false := by
  obtain rfl : f = 5 := Option.some.inj ((show Tryz.prog.funcNamed "spandrel/spandrellaw8.ItemRight" = some 5 by kernel_rfl).symm.trans hf) |>.symm
  obtain rfl : fn = Tryz.f5 := (Option.some.inj (Tryz.func5.symm.trans hfn)).symm
  refine ⟨by kernel_rfl, fun j t ht => ?_⟩
  rw [Tryz.params5] at ht
  have hm := Array.mem_of_getElem? ht
  have h33 : Tryz.prog.wantsStandIn 33 = false := by kernel_rfl
  have h3 : Tryz.prog.wantsStandIn 3 = false := by kernel_rfl
  simp at hm
  rcases hm with rfl | rfl
  · exact h33
  · exact h3

theorem card : Rows.ItemRightUptoCardSaid :=
  Claim7.holds_tied_plain_at .later [] _ _ _ _ said (fun _ h => by cases h) (by kernel_rfl) (fun _ h => by cases h) itemRightUpto_row_tie rfl ⟨rfl, rfl⟩ (by kernel_rfl) rfl plain (by kernel_rfl)
end Go.Proofs.YtlkmegchaeokgaaGreatDoor.itemRight
namespace Go.Proofs.YtlkmegchaeokgaaGreatDoor
theorem itemRightUpto_holds : Rows.ItemRightUptoCardSaid := itemRight.card
#print axioms itemRightUpto_holds
end Go.Proofs.YtlkmegchaeokgaaGreatDoor
