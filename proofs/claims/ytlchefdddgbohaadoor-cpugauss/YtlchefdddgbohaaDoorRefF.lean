/- The document's Find, Shape, Spans; Ops' rows. -/
import Derived.Test.YtlchefdddgbohaaDoorFind
import Derived.Test.YtlchefdddgbohaaDoorRefOps
namespace Go.Proofs.YtlchefdddgbohaaDoor
open Go.ChangeShapes Go.WideShapes Go.ChangeAt Go.RowKit
set_option linter.unusedVariables false
set_option maxRecDepth 100000

/-- block b holds the operations -/
def RowIs (w : World) (b : Nat) : Prop := ∃ t z, w.heap[b]? = some (.cells (opsT.flatMap opCells).toArray t z)

theorem RowIs.lt {w : World} {b : Nat} (h : RowIs w b) : b < w.heap.size := by
  obtain ⟨_, _, h⟩ := h
  exact (Array.getElem?_eq_some_iff.1 h).1
theorem RowIs.below {w w' : World} {b B : Nat} (h : RowIs w b) (hb : Below B w w') (hB : b < B) : RowIs w' b := by
  obtain ⟨t, z, h⟩ := h
  exact ⟨t, z, by rw [hb.block b hB]; exact h⟩
theorem RowIs.op {w : World} {b : Nat} (h : RowIs w b) (i : Nat) (hi : i < 43) : w.cell? ⟨b, i * 3, none⟩ = some (.string (str (nameAt i))) ∧ w.cell? ⟨b, i * 3 + 1, none⟩ = some (.int .u8 (byteAt i)) ∧ w.cell? ⟨b, i * 3 + 2, none⟩ = some (.int .i64 (shapeAt i)) := by
  obtain ⟨t, z, h⟩ := h
  have hf := flat_at opCells 3 (fun _ => rfl) opsT i
  have ho := opsT_at i hi
  rw [cell_block h, cell_block h, cell_block h, List.getElem?_toArray, List.getElem?_toArray, List.getElem?_toArray]
  refine ⟨?_, ?_, ?_⟩
  · exact (hf 0 _ ho (by omega)).trans rfl
  · exact (hf 1 _ ho (by omega)).trans rfl
  · exact (hf 2 _ ho (by omega)).trans rfl
theorem row_new (w : World) (t : TypeId) : RowIs (w.alloc (.cells (opsT.flatMap opCells).toArray t)) w.heap.size := ⟨t, _, heap_alloc_new w _⟩

/-- what both Ops answer: a new row -/
def NewRow (w : World) (e : Ending) (w' : World) : Prop := ∃ b, e = .returned (.slice (some ⟨b, 0, none⟩) 43 43) ∧ Hid (b = w.heap.size) ∧ Hid (w'.heap.size = b + 1) ∧ Below w.heap.size w w' ∧ RowIs w' b

theorem refOps_row (w : World) : Calls Tryd.prog 36 #[] w fun e w' => NewRow w e w' :=
  (refOps_any w).mono fun e w' ⟨he, hw⟩ => by
    subst hw
    exact ⟨_, he, rfl, (show _ = _ by simp), below_alloc _ _, row_new _ _⟩
theorem shape_any (op : Int) (w : World) :
    Calls Tryd.prog 37 #[.int .i64 op] w fun e w' => e = .returned (.int .i64 (shapeN op)) ∧ Below w.heap.size w w' := by
  by_cases h1 : op < 1
  · have hr : shapeN op = 0 := by rw [shapeN, if_neg (by omega)]
    rw [hr]
    go_enter Tryd.func37, Tryd.ntmps37
    go_wp2_with (go_at_call 36; refine (refOps_row _).mono ?_; rintro e w' ⟨b, rfl, hb, hs, hbel, hrow⟩; replace hrow := Hid.intro hrow)
    go_ret
    exact ⟨rfl, hbel⟩
  · by_cases h2 : op > 43
    · have hr : shapeN op = 0 := by rw [shapeN, if_neg (by omega)]
      rw [hr]
      go_enter Tryd.func37, Tryd.ntmps37
      go_wp2_with (go_at_call 36; refine (refOps_row _).mono ?_; rintro e w' ⟨b, rfl, hb, hs, hbel, hrow⟩; replace hrow := Hid.intro hrow)
      go_ret
      exact ⟨rfl, hbel⟩
    · obtain ⟨i, rfl⟩ : ∃ i : Nat, op = (i : Int) + 1 := ⟨(op - 1).toNat, by omega⟩
      have hr : shapeN ((i : Int) + 1) = shapeAt i := by rw [shapeN, if_pos (by omega), show ((i : Int) + 1 - 1).toNat = i by omega]
      have hi : i < 43 := by omega
      rw [hr]
      go_enter Tryd.func37, Tryd.ntmps37
      go_wp2_with (go_at_call 36; refine (refOps_row _).mono ?_; rintro e w' ⟨b, rfl, hb, hs, hbel, hrow⟩; have q2 := (hrow.op i hi).2.2; replace hrow := Hid.intro hrow)
      all_goals first | omega | skip
      go_ret
      exact ⟨rfl, hbel⟩

theorem refFind_any (s : ByteArray) (w : World) :
    Calls Tryd.prog 30 #[.string s] w fun e w' => e = .returned (.int .i64 (findN (nm s))) ∧ Below w.heap.size w w' := by
  obtain ⟨k, hk⟩ : ∃ k, k = findN (nm s) := ⟨_, rfl⟩
  rw [← hk]
  have hkH := Hid.intro hk
  clear hk
  go_enter Tryd.func30, Tryd.ntmps30
  go_wp2_with (go_at_call 36; refine (refOps_row _).mono ?_; rintro e w' ⟨b, rfl, hb, hs, hbel, hrow⟩; replace hrow := Hid.intro hrow)
  go_loopw [4] (fun vi wr => ∃ (i : Nat), i ≤ 43 ∧ vi = .int .i64 (i : Int) ∧ Hid (∀ j, j < i → nameAt j ≠ nm s) ∧ wr = w') (fun vi _ => 43 - (intOf vi).toNat)
  case atStart => exact ⟨0, by omega, rfl, fun j hj => by omega, rfl⟩
  case round =>
    obtain ⟨i, hi, rfl, hI, rfl⟩ := hrel
    by_cases hlt : i < 43
    · have q0 := (hrow.out.op i hlt).1
      obtain ⟨nmi, hnm⟩ : ∃ x, x = nameAt i := ⟨_, rfl⟩
      rw [← hnm] at q0
      by_cases he : nmi = nm s
      · have hkk : Hid (k = (i : Int) + 1) := by show k = _; rw [hkH.out, findN_hit hlt (hnm ▸ he) hI.out]
        have hss : (nmi == s.toList) = true := by rw [nm_eq]; exact decide_eq_true he
        clear he hnm
        go_wp2
        all_goals first | omega | skip
        go_ret
        rw [hkk.out]
        exact ⟨rfl, hbel⟩
      · have hss : (nmi == s.toList) = false := by rw [nm_eq]; exact decide_eq_false he
        have hI2 : Hid (∀ j, j < i + 1 → nameAt j ≠ nm s) := fun j hj => by
          by_cases hj2 : j = i
          · subst hj2; rw [← hnm]; exact he
          · exact hI.out j (by omega)
        clear he hnm
        go_wp2
        all_goals first | omega | skip
        go_roundw
        case rel => exact ⟨i + 1, by omega, by go_num, hI2, by trivial⟩
        case measure => simp [intOf]; omega
    · have hkk : Hid (k = 0) := by show k = _; rw [hkH.out, findN_none fun j hj => hI.out j (by omega)]
      go_wp2
      all_goals first | omega | skip
      go_ret
      rw [hkk.out]
      exact ⟨rfl, hbel⟩

/-- a number brought within 0 .. 42 -/
def withinN (a : Int) : Int := if a.tmod 43 < 0 then a.tmod 43 + 43 else a.tmod 43
end Go.Proofs.YtlchefdddgbohaaDoor
