/- IRefF: what the document's Right wants besides. -/
import Derived.Test.YtmndccbeddaphaaGreatDoorZIRefOps
namespace Go.Proofs.YtmndccbeddaphaaGreatDoor
open Go.ChangeShapes Go.WideShapes Go.ChangeAt Go.RowKit
set_option linter.unusedVariables false
set_option maxRecDepth 100000
def RowIs (w : World) (b : Nat) : Prop := ∃ t z, w.heap[b]? = some (.cells (opsT.flatMap opCells).toArray t z)
theorem RowIs.lt {w : World} {b : Nat} (h : RowIs w b) : b < w.heap.size := by
  obtain ⟨_, _, h⟩ := h
  exact (Array.getElem?_eq_some_iff.1 h).1
theorem RowIs.below {w w' : World} {b B : Nat} (h : RowIs w b) (hb : Below B w w') (hB : b < B) : RowIs w' b := by
  obtain ⟨t, z, h⟩ := h
  exact ⟨t, z, by rw [hb.block b hB]; exact h⟩
theorem RowIs.op {w : World} {b : Nat} (h : RowIs w b) (i : Nat) (hi : i < 43) : w.cell? ⟨b, i * 3, none⟩ = some (.string (istr (nameAt i))) ∧ w.cell? ⟨b, i * 3 + 1, none⟩ = some (.int .u8 (byteAt i)) ∧ w.cell? ⟨b, i * 3 + 2, none⟩ = some (.int .i64 (shapeAt i)) := by
  obtain ⟨t, z, h⟩ := h
  have hf := flat_at opCells 3 (fun _ => rfl) opsT i
  have ho := opsT_at i hi
  rw [cell_block h, cell_block h, cell_block h, List.getElem?_toArray, List.getElem?_toArray, List.getElem?_toArray]
  refine ⟨?_, ?_, ?_⟩
  · exact (hf 0 _ ho (by omega)).trans rfl
  · exact (hf 1 _ ho (by omega)).trans rfl
  · exact (hf 2 _ ho (by omega)).trans rfl
theorem row_new (w : World) (t : TypeId) : RowIs (w.alloc (.cells (opsT.flatMap opCells).toArray t)) w.heap.size := ⟨t, _, heap_alloc_new w _⟩
def NewRow (w : World) (e : Ending) (w' : World) : Prop := ∃ b, e = .returned (.slice (some ⟨b, 0, none⟩) 43 43) ∧ Hid (b = w.heap.size) ∧ Hid (w'.heap.size = b + 1) ∧ Below w.heap.size w w' ∧ RowIs w' b
theorem refOps_row (w : World) : Calls Tryz.prog 144 #[] w fun e w' => NewRow w e w' :=
  (refOps_any w).mono fun e w' ⟨he, hw⟩ => by
    subst hw
    exact ⟨_, he, rfl, (show _ = _ by simp), ibelow_alloc _ _, row_new _ _⟩
theorem shape_any (op : Int) (w : World) :
    Calls Tryz.prog 119 #[.int .i64 op] w fun e w' => e = .returned (.int .i64 (shapeN op)) ∧ Below w.heap.size w w' := by
  by_cases h1 : op < 1
  · have hr : shapeN op = 0 := by rw [shapeN, if_neg (by omega)]
    rw [hr]
    go_enter Tryz.func119, Tryz.ntmps119
    go_wp2_with (go_at_call 144; refine (refOps_row _).mono ?_; rintro e w' ⟨b, rfl, hb, hs, hbel, hrow⟩; replace hrow := Hid.intro hrow)
    go_ret
    exact ⟨rfl, hbel⟩
  · by_cases h2 : op > 43
    · have hr : shapeN op = 0 := by rw [shapeN, if_neg (by omega)]
      rw [hr]
      go_enter Tryz.func119, Tryz.ntmps119
      go_wp2_with (go_at_call 144; refine (refOps_row _).mono ?_; rintro e w' ⟨b, rfl, hb, hs, hbel, hrow⟩; replace hrow := Hid.intro hrow)
      go_ret
      exact ⟨rfl, hbel⟩
    · obtain ⟨i, rfl⟩ : ∃ i : Nat, op = (i : Int) + 1 := ⟨(op - 1).toNat, by omega⟩
      have hr : shapeN ((i : Int) + 1) = shapeAt i := by rw [shapeN, if_pos (by omega), show ((i : Int) + 1 - 1).toNat = i by omega]
      have hi : i < 43 := by omega
      rw [hr]
      go_enter Tryz.func119, Tryz.ntmps119
      go_wp2_with (go_at_call 144; refine (refOps_row _).mono ?_; rintro e w' ⟨b, rfl, hb, hs, hbel, hrow⟩; have q2 := (hrow.op i hi).2.2; replace hrow := Hid.intro hrow)
      all_goals first | omega | skip
      go_ret
      exact ⟨rfl, hbel⟩
theorem refSpans_any (op : Int) (w : World) :
    Calls Tryz.prog 94 #[.int .i64 op] w fun e w' => e = .returned (.bool (spansB (shapeN op))) ∧ Below w.heap.size w w' := by
  generalize hs : shapeN op = s
  by_cases h1 : s = 12
  · subst h1
    go_enter Tryz.func94, Tryz.ntmps94
    go_wp2_with (go_at_call 119; refine (shape_any _ _).mono ?_; rintro e w' ⟨rfl, hbel⟩; rw [hs])
    go_ret
    exact ⟨rfl, hbel⟩
  · have e1 : (s == 12) = false := by simpa using h1
    have hs2 : spansB s = (s == 13) := by simp [spansB, e1]
    rw [hs2]
    go_enter Tryz.func94, Tryz.ntmps94
    go_wp2_with (first | (go_at_call 119; (with_reducible refine (shape_any _ w).mono ?_); rintro e w1 ⟨rfl, hbel⟩; rw [hs]) | (go_at_call 119; refine (shape_any _ _).mono ?_; rintro e w' ⟨rfl, hbel2⟩; rw [hs]))
    go_ret
    exact ⟨rfl, hbel.trans (hbel2.mono hbel.size)⟩
end Go.Proofs.YtmndccbeddaphaaGreatDoor
