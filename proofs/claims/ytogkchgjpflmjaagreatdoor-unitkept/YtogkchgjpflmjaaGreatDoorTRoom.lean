/- book.Same, Roomy and Intact over the program's tokens. -/
import Derived.Test.YtogkchgjpflmjaaGreatDoorIBase
import Derived.Lib.Strings
import Derived.WalkKit
import Derived.Deep.RegionHeld3
import Derived.Deep.DeepCutAuto
import Derived.Test.YtogkchgjpflmjaaGreatDoorKnown
import Derived.Test.YtogkchgjpflmjaaGreatDoorQuietB
import Derived.Deep.QuietTactic
import Derived.BigQuiet
import Derived.WalkSmall
import Derived.WalkSpells
import Derived.Laws.CopyOwn
/- isa.Ops, Find, Spans, and the document's. -/
namespace Go.Proofs.YtogkchgjpflmjaaGreatDoor
open Go.ChangeShapes Go.WideShapes Go.ChangeAt Go.RowKit
set_option linter.unusedVariables false
set_option maxRecDepth 100000
def findN (s : List UInt8) : Int := match opsT.findIdx? (fun x => x.1 == s) with
  | some i => (i : Int) + 1
  | none => 0
theorem nameAt_get (i : Nat) (hi : i < opsT.length) : opsT[i].1 = nameAt i := by
  have h : opsT[i]? = some opsT[i] := List.getElem?_eq_getElem _
  rw [nameAt, List.getD_eq_getElem?_getD, h]
  rfl
theorem findN_hit {s : List UInt8} {i : Nat} (hi : i < 43) (h : nameAt i = s) (hb : ∀ j, j < i → nameAt j ≠ s) : findN s = (i : Int) + 1 := by
  have hl : i < opsT.length := hi
  have : opsT.findIdx? (fun x => x.1 == s) = some i := by
    rw [List.findIdx?_eq_some_iff_getElem]
    refine ⟨hl, ?_, fun j hj => ?_⟩
    · rw [nameAt_get i hl, h]; simp
    · rw [nameAt_get j (by omega)]
      simpa using hb j hj
  rw [findN, this]
theorem findN_none {s : List UInt8} (hb : ∀ j, j < 43 → nameAt j ≠ s) : findN s = 0 := by
  have : opsT.findIdx? (fun x => x.1 == s) = none := by
    rw [List.findIdx?_eq_none_iff]
    intro x hx
    obtain ⟨j, hj, rfl⟩ := List.getElem_of_mem hx
    rw [nameAt_get j hj]
    simpa using hb j hj
  rw [findN, this]
def nm (s : ByteArray) : List UInt8 := s.data.toList
theorem nm_eq (a : List UInt8) (s : ByteArray) : (a == s.toList) = decide (a = nm s) := by
  rw [Lib.toList_data]
  by_cases h : a = nm s
  · rw [decide_eq_true h, h]; simp [nm]
  · rw [decide_eq_false h]; simpa [nm] using h
theorem find_any (s : ByteArray) (w : World) (hT : Tab w) :
    Calls Tryz.prog 132 #[.string s] w fun e w' => e = .returned (.tuple #[.int .i64 (findN (nm s)), .bool (decide (findN (nm s) > 0))]) ∧ w' = w := by
  obtain ⟨k, hk⟩ : ∃ k, k = findN (nm s) := ⟨_, rfl⟩
  rw [← hk]
  have hkH := Hid.intro hk
  have hTH := Hid.intro hT
  clear hk hT
  go_enter Tryz.func132, Tryz.ntmps132
  go_wp2
  go_loopw [5] (fun vi wr => ∃ (i : Nat), i ≤ 43 ∧ vi = .int .i64 (i : Int) ∧ Hid (∀ j, j < i → nameAt j ≠ nm s) ∧ wr = w) (fun vi _ => 43 - (intOf vi).toNat)
  case atStart => exact ⟨0, by omega, rfl, fun j hj => by omega, rfl⟩
  case round =>
    obtain ⟨i, hi, rfl, hI, rfl⟩ := hrel
    by_cases hlt : i < 43
    · have q0 := (hTH.out.op i hlt).1
      obtain ⟨nmi, hnm⟩ : ∃ x, x = nameAt i := ⟨_, rfl⟩
      rw [← hnm] at q0
      by_cases he : nmi = nm s
      · have hkk : Hid (k = (i : Int) + 1) := by show k = _; rw [hkH.out, findN_hit hlt (hnm ▸ he) hI.out]
        have hss : (nmi == s.toList) = true := by rw [nm_eq]; exact decide_eq_true he
        clear he hnm
        go_wp2
        all_goals first | omega | skip
        go_ret2
        rw [hkk.out]
        refine ⟨?_, rfl⟩
        have hd : decide ((i : Int) + 1 > 0) = true := decide_eq_true (by omega)
        rw [hd]
        rfl
      · have hss : (nmi == s.toList) = false := by rw [nm_eq]; exact decide_eq_false he
        have hI2 : Hid (∀ j, j < i + 1 → nameAt j ≠ nm s) := fun j hj => by
          by_cases hj2 : j = i
          · subst hj2; rw [← hnm]; exact he
          · exact hI.out j (by omega)
        clear he hnm
        go_wp2
        all_goals first | omega | skip
        go_roundw
        case rel => exact ⟨i + 1, by omega, by go_num, hI2, by trivial⟩
        case measure => simp [intOf]; omega
    · have hkk : Hid (k = 0) := by show k = _; rw [hkH.out, findN_none fun j hj => hI.out j (by omega)]
      go_wp2
      all_goals first | omega | skip
      go_ret2
      rw [hkk.out]
      exact ⟨rfl, rfl⟩
def shapeN (op : Int) : Int := if 1 ≤ op ∧ op ≤ 43 then shapeAt (op - 1).toNat else 0
theorem shapeN_some {op : Int} (h : 1 ≤ op ∧ op ≤ 43) : 1 ≤ shapeN op ∧ shapeN op ≤ 13 := by
  rw [shapeN, if_pos h]
  exact shape_range _ (by omega)
theorem atV_eq (op : Int) : atV op = .tuple #[opV (if 1 ≤ op ∧ op ≤ 43 then nameAt (op - 1).toNat else []) (if 1 ≤ op ∧ op ≤ 43 then byteAt (op - 1).toNat else 0) (shapeN op), .bool (decide (1 ≤ op ∧ op ≤ 43))] := by
  unfold atV shapeN
  by_cases h : 1 ≤ op ∧ op ≤ 43
  · simp only [if_pos h, decide_eq_true h]
  · simp only [if_neg h, decide_eq_false h]
theorem at_parts (op : Int) (w : World) (hT : Tab w) :
    Calls Tryz.prog 95 #[.int .i64 op] w fun e w' => (∃ s b, e = .returned (.tuple #[opV s b (shapeN op), .bool (decide (1 ≤ op ∧ op ≤ 43))])) ∧ Below w.heap.size w w' :=
  (at_any op w hT).mono fun e w' ⟨he, hb⟩ => ⟨⟨_, _, he.trans (congrArg _ (atV_eq op))⟩, hb⟩
theorem spansOp_any (op : Int) (w : World) (hT : Tab w) :
    Calls Tryz.prog 54 #[.int .i64 op] w fun e w' => e = .returned (.bool (spansB (shapeN op))) ∧ Below w.heap.size w w' := by
  by_cases h : 1 ≤ op ∧ op ≤ 43
  · have hd : decide (1 ≤ op ∧ op ≤ 43) = true := decide_eq_true h
    generalize hb : decide (1 ≤ op ∧ op ≤ 43) = B at *
    subst hd
    go_enter Tryz.func54, Tryz.ntmps54
    go_wp2_with (first | (go_at_call 95; refine (at_parts _ _ hT).mono ?_; rintro e w' ⟨⟨s, b, rfl⟩, hbel⟩; rw [hb]) | (go_at_call 96; refine (spans_any _ _).mono ?_; rintro e w' ⟨rfl, rfl⟩))
    go_ret
    exact ⟨rfl, (hbel.alloc hbel.size _)⟩
  · have hd : decide (1 ≤ op ∧ op ≤ 43) = false := decide_eq_false h
    have hs : spansB (shapeN op) = false := by rw [shapeN, if_neg h]; rfl
    generalize hb : decide (1 ≤ op ∧ op ≤ 43) = B at *
    subst hd
    rw [hs]
    go_enter Tryz.func54, Tryz.ntmps54
    go_wp2_with (first | (go_at_call 95; refine (at_parts _ _ hT).mono ?_; rintro e w' ⟨⟨s, b, rfl⟩, hbel⟩; rw [hb]) | (go_at_call 96; refine (spans_any _ _).mono ?_; rintro e w' ⟨rfl, rfl⟩))
    go_ret
    exact ⟨rfl, (hbel.alloc hbel.size _)⟩
end Go.Proofs.YtogkchgjpflmjaaGreatDoor
/- The document's Find, Shape, Spans; Ops' rows. -/
namespace Go.Proofs.YtogkchgjpflmjaaGreatDoor
open Go.ChangeShapes Go.WideShapes Go.ChangeAt Go.RowKit
set_option linter.unusedVariables false
set_option maxRecDepth 100000
def RowIs (w : World) (b : Nat) : Prop := ∃ t z, w.heap[b]? = some (.cells (opsT.flatMap opCells).toArray t z)
theorem RowIs.lt {w : World} {b : Nat} (h : RowIs w b) : b < w.heap.size := by
  obtain ⟨_, _, h⟩ := h
  exact (Array.getElem?_eq_some_iff.1 h).1
theorem RowIs.below {w w' : World} {b B : Nat} (h : RowIs w b) (hb : Below B w w') (hB : b < B) : RowIs w' b := by
  obtain ⟨t, z, h⟩ := h
  exact ⟨t, z, by rw [hb.block b hB]; exact h⟩
theorem RowIs.op {w : World} {b : Nat} (h : RowIs w b) (i : Nat) (hi : i < 43) : w.cell? ⟨b, i * 3, none⟩ = some (.string (istr (nameAt i))) ∧ w.cell? ⟨b, i * 3 + 1, none⟩ = some (.int .u8 (byteAt i)) ∧ w.cell? ⟨b, i * 3 + 2, none⟩ = some (.int .i64 (shapeAt i)) := by
  obtain ⟨t, z, h⟩ := h
  have hf := flat_at opCells 3 (fun _ => rfl) opsT i
  have ho := opsT_at i hi
  rw [cell_block h, cell_block h, cell_block h, List.getElem?_toArray, List.getElem?_toArray, List.getElem?_toArray]
  refine ⟨?_, ?_, ?_⟩
  · exact (hf 0 _ ho (by omega)).trans rfl
  · exact (hf 1 _ ho (by omega)).trans rfl
  · exact (hf 2 _ ho (by omega)).trans rfl
end Go.Proofs.YtogkchgjpflmjaaGreatDoor
/- isa's registers, numbers, Check and Len. -/
namespace Go.Proofs.YtogkchgjpflmjaaGreatDoor
open Go.ChangeShapes Go.WideShapes Go.ChangeAt Go.RowKit
set_option linter.unusedVariables false
set_option maxRecDepth 100000
def regB (a b n : Int) (s : Nat) : Bool := decide (0 ≤ a ∧ a ≤ aMax s ∧ 0 ≤ b ∧ b ≤ bMax s) && (decide (s ≠ 7) || (decide (nMin s ≤ n) && decide (n ≤ nMax s)))
theorem hasRegisters_any (op a b n f : Int) (s : Nat) (hs : s < 14) (w : World) (hT : Tab w) :
    Calls Tryz.prog 165 #[instV op a b n f, .int .i64 (s : Int)] w fun e w' => e = .returned (.bool (regB a b n s)) ∧ Below w.heap.size w w' := by
  have q0 := fun o => ((hT.alloc o).sh s hs).1
  have q1 := fun o => ((hT.alloc o).sh s hs).2.1
  have q2 := fun o => ((hT.alloc o).sh s hs).2.2.1
  have q3 := fun o => ((hT.alloc o).sh s hs).2.2.2.1
  have q4 := fun o => ((hT.alloc o).sh s hs).2.2.2.2
  unfold regB
  generalize aMax s = A at *
  generalize bMax s = B at *
  generalize nMin s = L at *
  generalize nMax s = M at *
  generalize sizeAt s = Z at *
  have hsz := hT.size
  clear hT
  by_cases h1 : a < 0
  · rw [decide_eq_false (by omega : ¬ (0 ≤ a ∧ a ≤ A ∧ 0 ≤ b ∧ b ≤ B)), Bool.false_and]
    go_enter Tryz.func165, Tryz.ntmps165
    go_wp2_with (go_at_call 181; refine (inEnds_any _ _ _ _ _ _ _).mono ?_; rintro e w' ⟨rfl, hbel⟩; replace hbel := Hid.intro hbel)
    all_goals first | omega | skip
    go_ret
    exact ⟨rfl, ((ibelow_alloc w _).alloc (by simp) _)⟩
  by_cases h2 : a > A
  · rw [decide_eq_false (by omega : ¬ (0 ≤ a ∧ a ≤ A ∧ 0 ≤ b ∧ b ≤ B)), Bool.false_and]
    go_enter Tryz.func165, Tryz.ntmps165
    go_wp2_with (go_at_call 181; refine (inEnds_any _ _ _ _ _ _ _).mono ?_; rintro e w' ⟨rfl, hbel⟩; replace hbel := Hid.intro hbel)
    all_goals first | omega | skip
    go_ret
    exact ⟨rfl, ((ibelow_alloc w _).alloc (by simp) _)⟩
  by_cases h3 : b < 0
  · rw [decide_eq_false (by omega : ¬ (0 ≤ a ∧ a ≤ A ∧ 0 ≤ b ∧ b ≤ B)), Bool.false_and]
    go_enter Tryz.func165, Tryz.ntmps165
    go_wp2_with (go_at_call 181; refine (inEnds_any _ _ _ _ _ _ _).mono ?_; rintro e w' ⟨rfl, hbel⟩; replace hbel := Hid.intro hbel)
    all_goals first | omega | skip
    go_ret
    exact ⟨rfl, ((ibelow_alloc w _).alloc (by simp) _)⟩
  by_cases h4 : b > B
  · rw [decide_eq_false (by omega : ¬ (0 ≤ a ∧ a ≤ A ∧ 0 ≤ b ∧ b ≤ B)), Bool.false_and]
    go_enter Tryz.func165, Tryz.ntmps165
    go_wp2_with (go_at_call 181; refine (inEnds_any _ _ _ _ _ _ _).mono ?_; rintro e w' ⟨rfl, hbel⟩; replace hbel := Hid.intro hbel)
    all_goals first | omega | skip
    go_ret
    exact ⟨rfl, ((ibelow_alloc w _).alloc (by simp) _)⟩
  rw [decide_eq_true (by omega : 0 ≤ a ∧ a ≤ A ∧ 0 ≤ b ∧ b ≤ B), Bool.true_and]
  by_cases h5 : s = 7
  · rw [decide_eq_false (by omega : ¬ s ≠ 7), Bool.false_or]
    have e5 : ((s : Int) == 7) = true := by simp [h5]
    have e6 : ((s : Int) != 7) = false := by simp [h5]
    clear h5
    go_enter Tryz.func165, Tryz.ntmps165
    go_wp2_with (go_at_call 181; refine (inEnds_any _ _ _ _ _ _ _).mono ?_; rintro e w' ⟨rfl, hbel⟩; replace hbel := Hid.intro hbel)
    all_goals first | omega | skip
    go_ret
    exact ⟨rfl, ((ibelow_alloc w _).alloc (by simp) _).trans (hbel.out.mono (by simp; omega))⟩
  · rw [decide_eq_true h5, Bool.true_or]
    have e5 : ((s : Int) == 7) = false := by simp; omega
    have e6 : ((s : Int) != 7) = true := by simp; omega
    clear h5
    go_enter Tryz.func165, Tryz.ntmps165
    go_wp2_with (go_at_call 181; refine (inEnds_any _ _ _ _ _ _ _).mono ?_; rintro e w' ⟨rfl, hbel⟩; replace hbel := Hid.intro hbel)
    all_goals first | omega | skip
    go_ret
    exact ⟨rfl, ((ibelow_alloc w _).alloc (by simp) _)⟩
def instL (op a b n f : Int) : List Value := [.int .i64 op, .int .i64 a, .int .i64 b, .int .i32 n, .int .i64 f]
theorem inst_cell (w : World) (op a b n f : Int) (j : Nat) : (w.alloc (.cells #[.int .i64 op, .int .i64 a, .int .i64 b, .int .i32 n, .int .i64 f] 85)).cell? ⟨w.heap.size, j, none⟩ = (instL op a b n f).toArray[j]? := cell_block (heap_alloc_new w _) j
structure Seven (g s : Nat) (n f A B L M Z : Int) (w : World) : Prop where
  n : w.cell? ⟨g, 3, none⟩ = some (.int .i32 n)
  f : w.cell? ⟨g, 4, none⟩ = some (.int .i64 f)
  a : w.cell? ⟨3, s * 5, none⟩ = some (.int .i64 A)
  b : w.cell? ⟨3, s * 5 + 1, none⟩ = some (.int .i64 B)
  l : w.cell? ⟨3, s * 5 + 2, none⟩ = some (.int .i32 L)
  m : w.cell? ⟨3, s * 5 + 3, none⟩ = some (.int .i32 M)
  z : w.cell? ⟨3, s * 5 + 4, none⟩ = some (.int .i64 Z)
  lt : g < w.heap.size
  two : 3 < w.heap.size
theorem Seven.drew {g s : Nat} {n f A B L M Z : Int} {w : World} (h : Seven g s n f A B L M Z w) : Seven g s n f A B L M Z w.drew := ⟨h.n, h.f, h.a, h.b, h.l, h.m, h.z, h.lt, h.two⟩
theorem Seven.below {g s : Nat} {n f A B L M Z : Int} {w w' : World} (h : Seven g s n f A B L M Z w) (hb : Below w.heap.size w w') : Seven g s n f A B L M Z w' :=
  ⟨(hb.cell (p := ⟨g, 3, none⟩) h.lt).trans h.n, (hb.cell (p := ⟨g, 4, none⟩) h.lt).trans h.f, (hb.cell (p := ⟨3, s * 5, none⟩) h.two).trans h.a, (hb.cell (p := ⟨3, s * 5 + 1, none⟩) h.two).trans h.b, (hb.cell (p := ⟨3, s * 5 + 2, none⟩) h.two).trans h.l, (hb.cell (p := ⟨3, s * 5 + 3, none⟩) h.two).trans h.m, (hb.cell (p := ⟨3, s * 5 + 4, none⟩) h.two).trans h.z, Nat.lt_of_lt_of_le h.lt hb.size, Nat.lt_of_lt_of_le h.two hb.size⟩
def numB (n f : Int) (s : Nat) : Bool := if spansB (s : Int) then fitsB n f else decide (f = 0) && (decide (nMin s ≤ n) && decide (n ≤ nMax s))
theorem hasNumber_any (op a b n f : Int) (s : Nat) (hs : s < 14) (w : World) (hT : Tab w) (hn : -2147483648 ≤ n ∧ n ≤ 2147483647) :
    Calls Tryz.prog 166 #[instV op a b n f, .int .i64 (s : Int)] w fun e w' => e = .returned (.bool (numB n f s)) ∧ Below w.heap.size w w' := by
  have q0 := fun o => ((hT.alloc o).sh s hs).1
  have q1 := fun o => ((hT.alloc o).sh s hs).2.1
  have q2 := fun o => ((hT.alloc o).sh s hs).2.2.1
  have q3 := fun o => ((hT.alloc o).sh s hs).2.2.2.1
  have q4 := fun o => ((hT.alloc o).sh s hs).2.2.2.2
  unfold numB
  generalize aMax s = A at *
  generalize bMax s = B at *
  generalize nMin s = L at *
  generalize nMax s = M at *
  generalize sizeAt s = Z at *
  have hsz := hT.size
  clear hT
  generalize hsp : spansB (s : Int) = sp
  cases sp with
  | true =>
    rw [if_pos rfl]
    go_enter Tryz.func166, Tryz.ntmps166
    go_wp2_with (first | (go_at_call 96; refine (spans_any _ _).mono ?_; rintro e w' ⟨rfl, rfl⟩; rw [hsp]) | (go_at_call 182; refine (reaches_any _ _ _ hn).mono ?_; rintro e w' ⟨rfl, rfl⟩))
    all_goals first | omega | skip
    go_ret
    exact ⟨rfl, ibelow_alloc w _⟩
  | false =>
    rw [if_neg (by simp)]
    have c3 := inst_cell w op a b n f 3
    have c4 := inst_cell w op a b n f 4
    simp only [instL, List.getElem?_toArray, List.getElem?_cons_succ, List.getElem?_cons_zero] at c3 c4
    have hbox := ibelow_alloc w (.cells #[.int .i64 op, .int .i64 a, .int .i64 b, .int .i32 n, .int .i64 f] 85)
    have hS : Seven w.heap.size s n f A B L M Z (w.alloc (.cells #[.int .i64 op, .int .i64 a, .int .i64 b, .int .i32 n, .int .i64 f] 85)) := ⟨c3, c4, q0 _, q1 _, q2 _, q3 _, q4 _, by simp, by simp; omega⟩
    by_cases h1 : f = 0
    · subst h1
      rw [decide_eq_true rfl, Bool.true_and]
      go_enter Tryz.func166, Tryz.ntmps166
      go_wp2_with (go_at_call 96; refine (spans_any _ _).mono ?_; rintro e w' ⟨rfl, rfl⟩; rw [hsp])
      clear c3 c4 q0 q1 q2 q3 q4
      generalize w.alloc (.cells #[.int .i64 op, .int .i64 a, .int .i64 b, .int .i32 n, .int .i64 0] 85) = w0 at *
      have hSH := Hid.intro hS
      have hbH := Hid.intro hbox
      obtain ⟨c3, c4, q0, q1, q2, q3, q4, l1, l2⟩ := hS
      clear l1 l2 hbox
      have b0 : (0 : Int) ≤ (s : Int) := by omega
      have b1 : (s : Int) < 14 := by omega
      have b2 : (s : Int) ≤ 14 := by omega
      go_region_held3 (fun w' => w'.cell? ⟨w.heap.size, 3, none⟩ = some (.int .i32 n) ∧ w'.cell? ⟨w.heap.size, 4, none⟩ = some (.int .i64 0) ∧ w'.cell? ⟨3, s * 5, none⟩ = some (.int .i64 A) ∧ w'.cell? ⟨3, s * 5 + 1, none⟩ = some (.int .i64 B) ∧ w'.cell? ⟨3, s * 5 + 2, none⟩ = some (.int .i32 L) ∧ w'.cell? ⟨3, s * 5 + 3, none⟩ = some (.int .i32 M) ∧ w'.cell? ⟨3, s * 5 + 4, none⟩ = some (.int .i64 Z)) (go_keep)
        ((first
          | (go_at_call 181; refine (inEnds_any _ _ _ _ _ _ _).mono ?_; rintro e w1 ⟨rfl, hbel⟩; obtain ⟨d3, d4, p0, p1, p2, p3, p4, l1, l2⟩ := hSH.out.drew.below hbel; clear l1 l2; replace hbel := Hid.intro hbel)))
      all_goals go_wp2_with fail
      all_goals first | omega | skip
      all_goals go_ret
      all_goals exact ⟨rfl, hbH.out.drew.trans (hbel.out.mono hbH.out.size)⟩
    · rw [decide_eq_false h1, Bool.false_and]
      have e1 : (f == 0) = false := by simpa using h1
      go_enter Tryz.func166, Tryz.ntmps166
      go_wp2_with (go_at_call 96; refine (spans_any _ _).mono ?_; rintro e w' ⟨rfl, rfl⟩; rw [hsp])
      clear c3 c4 q0 q1 q2 q3 q4
      generalize w.alloc (.cells #[.int .i64 op, .int .i64 a, .int .i64 b, .int .i32 n, .int .i64 f] 85) = w0 at *
      have hbH := Hid.intro hbox
      obtain ⟨c3, c4, q0, q1, q2, q3, q4, l1, l2⟩ := hS
      clear l1 l2 hbox
      go_region
      all_goals go_wp2_with fail
      all_goals go_ret
      all_goals exact ⟨rfl, hbH.out.drew⟩
end Go.Proofs.YtogkchgjpflmjaaGreatDoor
/- isa.Check and Len. -/
namespace Go.Proofs.YtogkchgjpflmjaaGreatDoor
open Go.ChangeShapes Go.WideShapes Go.ChangeAt Go.RowKit
set_option linter.unusedVariables false
set_option maxRecDepth 100000
structure InstAt (w : World) (g : Nat) (op a b n f : Int) : Prop where
  o : w.cell? ⟨g, 0, none⟩ = some (.int .i64 op)
  a : w.cell? ⟨g, 1, none⟩ = some (.int .i64 a)
  b : w.cell? ⟨g, 2, none⟩ = some (.int .i64 b)
  n : w.cell? ⟨g, 3, none⟩ = some (.int .i32 n)
  f : w.cell? ⟨g, 4, none⟩ = some (.int .i64 f)
  lt : g < w.heap.size
theorem InstAt.drew {w : World} {g : Nat} {op a b n f : Int} (h : InstAt w g op a b n f) : InstAt w.drew g op a b n f := ⟨h.o, h.a, h.b, h.n, h.f, h.lt⟩
theorem InstAt.below {w w' : World} {g B : Nat} {op a b n f : Int} (h : InstAt w g op a b n f) (hb : Below B w w') (hB : g < B) : InstAt w' g op a b n f :=
  ⟨(hb.cell (p := ⟨g, 0, none⟩) hB).trans h.o, (hb.cell (p := ⟨g, 1, none⟩) hB).trans h.a, (hb.cell (p := ⟨g, 2, none⟩) hB).trans h.b, (hb.cell (p := ⟨g, 3, none⟩) hB).trans h.n, (hb.cell (p := ⟨g, 4, none⟩) hB).trans h.f, Nat.lt_of_lt_of_le h.lt hb.size⟩
theorem InstAt.alloc {w : World} {g : Nat} {op a b n f : Int} (h : InstAt w g op a b n f) (o : Obj) : InstAt (w.alloc o) g op a b n f := h.below (ibelow_alloc w o) h.lt
theorem inst_new (w : World) (op a b n f : Int) : InstAt (w.alloc (.cells #[.int .i64 op, .int .i64 a, .int .i64 b, .int .i32 n, .int .i64 f] 85)) w.heap.size op a b n f :=
  ⟨inst_cell w op a b n f 0, inst_cell w op a b n f 1, inst_cell w op a b n f 2, inst_cell w op a b n f 3, inst_cell w op a b n f 4, by simp⟩
theorem op_new (w : World) (s : List UInt8) (b h : Int) : (w.alloc (.cells #[.string (istr s), .int .u8 b, .int .i64 h] 166)).cell? ⟨w.heap.size, 2, none⟩ = some (.int .i64 h) := (cell_block (heap_alloc_new w _) 2).trans rfl
def checkN (op a b n f : Int) : Int := if ¬ (1 ≤ op ∧ op ≤ 43) then 11 else if regB a b n (shapeN op).toNat = false then 12 else if numB n f (shapeN op).toNat = false then 13 else 0
theorem shape_nat (op : Int) : ∃ s : Nat, shapeN op = (s : Int) ∧ s < 14 ∧ (shapeN op).toNat = s := by
  have h : 0 ≤ shapeN op ∧ shapeN op ≤ 13 := by
    by_cases h : 1 ≤ op ∧ op ≤ 43
    · have := shapeN_some h
      omega
    · rw [shapeN, if_neg h]
      omega
  exact ⟨(shapeN op).toNat, by omega, by omega, rfl⟩
theorem check_bel {w w0 w1 w2 w3 : World} {o : Obj} (h0 : Below w.heap.size w w0) (h1 : Below w0.heap.size w0 w1) (h2 : Below (w1.alloc o).heap.size (w1.alloc o) w2) (h3 : Below w2.heap.size w2 w3) : Below w.heap.size w w3 := by
  have s0 := h0.size
  have s1 := h1.size
  have s2 := h2.size
  simp at s2
  exact (((h0.trans (h1.mono s0)).alloc (by omega) o).trans (h2.mono (by simp; omega))).trans (h3.mono (by omega))
set_option maxHeartbeats 1000000 in
theorem check_any (op a b n f : Int) (w : World) (hT : Tab w) (hn : -2147483648 ≤ n ∧ n ≤ 2147483647) :
    Calls Tryz.prog 145 #[instV op a b n f] w fun e w' => e = .returned (.int .i64 (checkN op a b n f)) ∧ Below w.heap.size w w' := by
  obtain ⟨s, hs, hs14, hsn⟩ := shape_nat op
  have hI := inst_new w op a b n f
  have hb0 := ibelow_alloc w (.cells #[.int .i64 op, .int .i64 a, .int .i64 b, .int .i32 n, .int .i64 f] 85)
  have hT0 := hT.alloc (.cells #[.int .i64 op, .int .i64 a, .int .i64 b, .int .i32 n, .int .i64 f] 85)
  obtain ⟨R, hR⟩ : ∃ R, R = checkN op a b n f := ⟨_, rfl⟩
  rw [← hR]
  unfold checkN at hR
  rw [hsn] at hR
  by_cases hop : 1 ≤ op ∧ op ≤ 43
  · rw [if_neg (by simpa using hop)] at hR
    have hd : decide (1 ≤ op ∧ op ≤ 43) = true := decide_eq_true hop
    cases hr : regB a b n s with
    | false =>
      rw [if_pos hr] at hR
      have hRH := Hid.intro hR
      have hIH := Hid.intro hI
      have hTH := Hid.intro hT0
      have hbH := Hid.intro hb0
      have hdH := Hid.intro hd
      have hsH := Hid.intro hs
      have hrH := Hid.intro hr
      clear hR hI hT0 hb0 hd hop hT hs hsn hr
      go_enter Tryz.func145, Tryz.ntmps145
      go_wp2_with (first | (go_at_call 95; refine (at_parts _ _ hTH.out).mono ?_; rintro e w1 ⟨⟨nm1, by1, rfl⟩, hb1⟩; rw [hdH.out, hsH.out]; have hI1 := Hid.intro (hIH.out.below hb1 hIH.out.lt); have hT1 := Hid.intro (hTH.out.below hb1 hTH.out.size); have i0 := fun o => (hI1.out.alloc o).o; have i1 := fun o => (hI1.out.alloc o).a; have i2 := fun o => (hI1.out.alloc o).b; have i3 := fun o => (hI1.out.alloc o).n; have i4 := fun o => (hI1.out.alloc o).f; replace hb1 := Hid.intro hb1) | (go_at_call 165; refine (hasRegisters_any _ _ _ _ _ s hs14 _ (hT1.out.alloc _)).mono ?_; rintro e w2 ⟨rfl, hb2⟩; rw [hrH.out]; have hI2 := Hid.intro ((hI1.out.alloc _).below hb2 (hI1.out.alloc _).lt); obtain ⟨j0, j1, j2, j3, j4, _⟩ := hI2.out; have k2 := (hb2.cell (p := ⟨w1.heap.size, 2, none⟩) (by simp)).trans (op_new w1 nm1 by1 s); have hT2 := Hid.intro ((hT1.out.alloc _).below hb2 (hT1.out.alloc _).size); replace hb2 := Hid.intro hb2))
      go_ret
      rw [hRH.out]
      exact ⟨rfl, ((hbH.out.trans (hb1.out.mono hbH.out.size)).alloc (Nat.le_trans hbH.out.size hb1.out.size) _).trans (hb2.out.mono (by have := hbH.out.size; have := hb1.out.size; simp at *; omega))⟩
    | true =>
      rw [if_neg (by simp [hr])] at hR
      cases hm : numB n f s with
      | false =>
        rw [if_pos hm] at hR
        have hRH := Hid.intro hR
        have hIH := Hid.intro hI
        have hTH := Hid.intro hT0
        have hbH := Hid.intro hb0
        have hdH := Hid.intro hd
        have hsH := Hid.intro hs
        have hrH := Hid.intro hr
        have hmH := Hid.intro hm
        clear hR hI hT0 hb0 hd hop hT hs hsn hr hm
        go_enter Tryz.func145, Tryz.ntmps145
        go_wp2_with (first | (go_at_call 95; refine (at_parts _ _ hTH.out).mono ?_; rintro e w1 ⟨⟨nm1, by1, rfl⟩, hb1⟩; rw [hdH.out, hsH.out]; have hI1 := Hid.intro (hIH.out.below hb1 hIH.out.lt); have hT1 := Hid.intro (hTH.out.below hb1 hTH.out.size); have i0 := fun o => (hI1.out.alloc o).o; have i1 := fun o => (hI1.out.alloc o).a; have i2 := fun o => (hI1.out.alloc o).b; have i3 := fun o => (hI1.out.alloc o).n; have i4 := fun o => (hI1.out.alloc o).f; replace hb1 := Hid.intro hb1) | (go_at_call 165; refine (hasRegisters_any _ _ _ _ _ s hs14 _ (hT1.out.alloc _)).mono ?_; rintro e w2 ⟨rfl, hb2⟩; rw [hrH.out]; have hI2 := Hid.intro ((hI1.out.alloc _).below hb2 (hI1.out.alloc _).lt); obtain ⟨j0, j1, j2, j3, j4, _⟩ := hI2.out; have k2 := (hb2.cell (p := ⟨w1.heap.size, 2, none⟩) (by simp)).trans (op_new w1 nm1 by1 s); have hT2 := Hid.intro ((hT1.out.alloc _).below hb2 (hT1.out.alloc _).size); replace hb2 := Hid.intro hb2) | (go_at_call 166; refine (hasNumber_any _ _ _ _ _ s hs14 _ hT2.out hn).mono ?_; rintro e w3 ⟨rfl, hb3⟩; rw [hmH.out]; replace hb3 := Hid.intro hb3))
        go_ret
        rw [hRH.out]
        exact ⟨rfl, check_bel hbH.out hb1.out hb2.out hb3.out⟩
      | true =>
        rw [if_neg (by simp [hm])] at hR
        have hRH := Hid.intro hR
        have hIH := Hid.intro hI
        have hTH := Hid.intro hT0
        have hbH := Hid.intro hb0
        have hdH := Hid.intro hd
        have hsH := Hid.intro hs
        have hrH := Hid.intro hr
        have hmH := Hid.intro hm
        clear hR hI hT0 hb0 hd hop hT hs hsn hr hm
        go_enter Tryz.func145, Tryz.ntmps145
        go_wp2_with (first | (go_at_call 95; refine (at_parts _ _ hTH.out).mono ?_; rintro e w1 ⟨⟨nm1, by1, rfl⟩, hb1⟩; rw [hdH.out, hsH.out]; have hI1 := Hid.intro (hIH.out.below hb1 hIH.out.lt); have hT1 := Hid.intro (hTH.out.below hb1 hTH.out.size); have i0 := fun o => (hI1.out.alloc o).o; have i1 := fun o => (hI1.out.alloc o).a; have i2 := fun o => (hI1.out.alloc o).b; have i3 := fun o => (hI1.out.alloc o).n; have i4 := fun o => (hI1.out.alloc o).f; replace hb1 := Hid.intro hb1) | (go_at_call 165; refine (hasRegisters_any _ _ _ _ _ s hs14 _ (hT1.out.alloc _)).mono ?_; rintro e w2 ⟨rfl, hb2⟩; rw [hrH.out]; have hI2 := Hid.intro ((hI1.out.alloc _).below hb2 (hI1.out.alloc _).lt); obtain ⟨j0, j1, j2, j3, j4, _⟩ := hI2.out; have k2 := (hb2.cell (p := ⟨w1.heap.size, 2, none⟩) (by simp)).trans (op_new w1 nm1 by1 s); have hT2 := Hid.intro ((hT1.out.alloc _).below hb2 (hT1.out.alloc _).size); replace hb2 := Hid.intro hb2) | (go_at_call 166; refine (hasNumber_any _ _ _ _ _ s hs14 _ hT2.out hn).mono ?_; rintro e w3 ⟨rfl, hb3⟩; rw [hmH.out]; replace hb3 := Hid.intro hb3))
        go_ret
        rw [hRH.out]
        exact ⟨rfl, check_bel hbH.out hb1.out hb2.out hb3.out⟩
  · rw [if_pos hop] at hR
    have hd : decide (1 ≤ op ∧ op ≤ 43) = false := decide_eq_false hop
    have hRH := Hid.intro hR
    have hIH := Hid.intro hI
    have hTH := Hid.intro hT0
    have hbH := Hid.intro hb0
    have hdH := Hid.intro hd
    have hsH := Hid.intro hs
    clear hR hI hT0 hb0 hd hop hT hs hsn
    go_enter Tryz.func145, Tryz.ntmps145
    go_wp2_with (go_at_call 95; refine (at_parts _ _ hTH.out).mono ?_; rintro e w1 ⟨⟨nm1, by1, rfl⟩, hb1⟩; rw [hdH.out])
    go_ret
    rw [hRH.out]
    exact ⟨rfl, (hbH.out.trans (hb1.mono hbH.out.size)).alloc (Nat.le_trans hbH.out.size hb1.size) _⟩
end Go.Proofs.YtogkchgjpflmjaaGreatDoor
namespace Go.Proofs.YtogkchgjpflmjaaGreatDoor
open Go.ChangeShapes Go.WideShapes Go.ChangeAt Go.RowKit
set_option linter.unusedVariables false
set_option maxRecDepth 100000
theorem cell_blockT {w : World} {b : Nat} {cs : Array Value} {t : TypeId} {z : _} (h : w.heap[b]? = some (.cells cs t z)) (j : Nat) : w.cell? ⟨b, j, none⟩ = cs[j]? := by
  unfold World.cell?
  rw [h]
  rfl
theorem flat_atT {α β : Type} (f : α → List β) (k : Nat) (hf : ∀ x, (f x).length = k) : ∀ (l : List α) (i j : Nat) (x : α), l[i]? = some x → j < k → (l.flatMap f)[i * k + j]? = (f x)[j]?
  | [], i, j, x, h, hj => by simp at h
  | y :: l, 0, j, x, h, hj => by
    simp only [List.getElem?_cons_zero, Option.some.injEq] at h
    subst h
    rw [List.flatMap_cons, Nat.zero_mul, Nat.zero_add, List.getElem?_append_left (by rw [hf]; exact hj)]
  | y :: l, i + 1, j, x, h, hj => by
    rw [List.flatMap_cons, List.getElem?_append_right (by rw [hf, Nat.succ_mul]; omega), hf, show (i + 1) * k + j - k = i * k + j by rw [Nat.succ_mul]; omega]
    exact flat_atT f k hf l i j x (by simpa using h) hj
structure TkAt (w : World) (g off : Nat) (t : Tok) : Prop where
  o : w.cell? ⟨g, off, none⟩ = some (.int .i64 t.kind)
  a : w.cell? ⟨g, off + 1, none⟩ = some (.string (str t.text))
  b : w.cell? ⟨g, off + 2, none⟩ = some (.int .u32 t.num)
  n : w.cell? ⟨g, off + 3, none⟩ = some (.int .i64 (t.place : Int))
theorem TkAt.lt {w : World} {g off : Nat} {x : Tok} (h : TkAt w g off x) : g < w.heap.size := World.block_lt_of_cell? w _ h.o
theorem TkAt.below {w w' : World} {g off B : Nat} {x : Tok} (h : TkAt w g off x) (hb : Below B w w') (hB : g < B) : TkAt w' g off x :=
  ⟨(hb.cell (p := ⟨g, off, none⟩) hB).trans h.o, (hb.cell (p := ⟨g, off + 1, none⟩) hB).trans h.a, (hb.cell (p := ⟨g, off + 2, none⟩) hB).trans h.b, (hb.cell (p := ⟨g, off + 3, none⟩) hB).trans h.n⟩
def TLies (w : World) (a : Option Addr) (xs : List Tok) : Prop := xs = [] ∨ ∃ g off, a = some ⟨g, off, none⟩ ∧ ∀ i x, xs[i]? = some x → TkAt w g (off + i * 4) x
theorem TLies.below {w w' : World} {a : Option Addr} {xs : List Tok} (h : TLies w a xs) (hb : Below w.heap.size w w') : TLies w' a xs := by
  rcases h with h | ⟨g, off, ha, hc⟩
  · exact .inl h
  · exact .inr ⟨g, off, ha, fun i x hx => (hc i x hx).below hb (hc i x hx).lt⟩
section
variable {P : Program}
end
def rowK (xs : List Tok) : List Value := xs.flatMap Tok.cells
theorem rowK_get (xs : List Tok) (i j : Nat) (x : Tok) (hi : xs[i]? = some x) (hj : j < 4) : (rowK xs)[i * 4 + j]? = x.cells[j]? := flat_atT Tok.cells 4 (fun _ => rfl) xs i j x hi hj
def RowK2 (w : World) (g : Nat) (xs : List Tok) : Prop := w.heap[g]? = some (.cells (rowK xs).toArray 188 (0, 0))
theorem RowK2.at {w : World} {g : Nat} {xs : List Tok} (h : RowK2 w g xs) (i : Nat) (x : Tok) (hi : xs[i]? = some x) : TkAt w g (i * 4) x := by
  have key : ∀ j, j < 4 → w.cell? ⟨g, i * 4 + j, none⟩ = x.cells[j]? := fun j hj => by rw [cell_blockT h, List.getElem?_toArray, rowK_get xs i j x hi hj]
  exact ⟨(key 0 (by omega)).trans rfl, (key 1 (by omega)).trans rfl, (key 2 (by omega)).trans rfl, (key 3 (by omega)).trans rfl⟩
theorem RowK2.lt {w : World} {g : Nat} {xs : List Tok} (h : RowK2 w g xs) : g < w.heap.size := (Array.getElem?_eq_some_iff.1 h).1
theorem RowK2.below {w w' : World} {g B : Nat} {xs : List Tok} (h : RowK2 w g xs) (hb : Below B w w') (hg : g < B) : RowK2 w' g xs := by
  unfold RowK2 at h ⊢
  rw [hb.block g hg, h]
theorem RowK2.frozen {w : World} {g : Nat} {xs : List Tok} (h : RowK2 w g xs) (i : Nat) : w.frozen? ⟨g, i, none⟩ = false := frozen_of_row w g i _ 188 h
theorem RowK2.lies {w : World} {g : Nat} {xs ys : List Tok} (h : RowK2 w g (xs ++ ys)) : TLies w (some ⟨g, 0, none⟩) xs :=
  .inr ⟨g, 0, rfl, fun i x hx => by
    have hl := (List.getElem?_eq_some_iff.1 hx).1
    have := h.at i x (by rw [List.getElem?_append_left hl]; exact hx)
    rwa [Nat.zero_add]⟩
theorem setT (xs : List Tok) (k : Nat) (hk : k < xs.length) (y : Tok) : ((((rowK xs).set (k * 4) (.int .i64 y.kind)).set (k * 4 + 1) (.string (str y.text))).set (k * 4 + 2) (.int .u32 y.num)).set (k * 4 + 3) (.int .i64 (y.place : Int)) = rowK (xs.set k y) := by
  induction xs generalizing k with
  | nil => simp at hk
  | cons x xs ih =>
    have hx : ∀ z zs, rowK (z :: zs) = z.cells ++ rowK zs := fun z zs => by simp [rowK]
    cases k with
    | zero =>
      rw [List.set_cons_zero, hx, hx]
      rfl
    | succ k =>
      rw [List.set_cons_succ, hx, hx, ← ih k (by simpa using hk)]
      have hl : x.cells.length = 4 := rfl
      have e : ∀ (L : List Value) (j : Nat) (v : Value), (x.cells ++ L).set ((k + 1) * 4 + j) v = x.cells ++ L.set (k * 4 + j) v := fun L j v => by
        rw [List.set_append_right _ _ (by rw [hl]; omega), hl, show (k + 1) * 4 + j - 4 = k * 4 + j by omega]
      have e0 := e (rowK xs) 0 (.int .i64 y.kind)
      rw [Nat.add_zero, Nat.add_zero] at e0
      rw [e0, e, e, e]
      rfl
theorem RowK2.set {w : World} {g : Nat} {xs : List Tok} (h : RowK2 w g xs) (k : Nat) (hk : k < xs.length) (y : Tok) :
    RowK2 ((((w.setCell ⟨g, k * 4, none⟩ (.int .i64 y.kind)).setCell ⟨g, k * 4 + 1, none⟩ (.string (str y.text))).setCell ⟨g, k * 4 + 2, none⟩ (.int .u32 y.num)).setCell ⟨g, k * 4 + 3, none⟩ (.int .i64 (y.place : Int))) g (xs.set k y) := by
  have h1 := heap_setCell_same w g (k * 4) _ 188 (.int .i64 y.kind) h
  have h2 := heap_setCell_same _ g (k * 4 + 1) _ 188 (.string (str y.text)) h1
  have h3 := heap_setCell_same _ g (k * 4 + 2) _ 188 (.int .u32 y.num) h2
  have h4 := heap_setCell_same _ g (k * 4 + 3) _ 188 (.int .i64 (y.place : Int)) h3
  unfold RowK2
  rw [h4, ← setT xs k hk y]
  simp
end Go.Proofs.YtogkchgjpflmjaaGreatDoor
