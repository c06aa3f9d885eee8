/- item's readerOf, said, Read of an operation's line. -/
import Derived.Test.YtmndccbeddaphaaGreatDoorICheck
import Derived.Test.YtmndccbeddaphaaGreatDoorTmMem
import Derived.Test.YtmndccbeddaphaaGreatDoorIFind
import Derived.Test.YtmndccbeddaphaaGreatDoorQuietB
import Derived.Test.YtmndccbeddaphaaGreatDoorRefRd
import Derived.Laws.EntriesVeiled
/- isa.Check and Len. -/
namespace Go.Proofs.YtmndccbeddaphaaGreatDoor
open Go.ChangeShapes Go.WideShapes Go.ChangeAt Go.RowKit
set_option linter.unusedVariables false
set_option maxRecDepth 100000

/-- an instruction in memory -/
structure InstAt (w : World) (g : Nat) (op a b n f : Int) : Prop where
  o : w.cell? ⟨g, 0, none⟩ = some (.int .i64 op)
  a : w.cell? ⟨g, 1, none⟩ = some (.int .i64 a)
  b : w.cell? ⟨g, 2, none⟩ = some (.int .i64 b)
  n : w.cell? ⟨g, 3, none⟩ = some (.int .i32 n)
  f : w.cell? ⟨g, 4, none⟩ = some (.int .i64 f)
  lt : g < w.heap.size
theorem InstAt.below {w w' : World} {g B : Nat} {op a b n f : Int} (h : InstAt w g op a b n f) (hb : Below B w w') (hB : g < B) : InstAt w' g op a b n f :=
  ⟨(hb.cell (p := ⟨g, 0, none⟩) hB).trans h.o, (hb.cell (p := ⟨g, 1, none⟩) hB).trans h.a, (hb.cell (p := ⟨g, 2, none⟩) hB).trans h.b, (hb.cell (p := ⟨g, 3, none⟩) hB).trans h.n, (hb.cell (p := ⟨g, 4, none⟩) hB).trans h.f, Nat.lt_of_lt_of_le h.lt hb.size⟩
theorem InstAt.alloc {w : World} {g : Nat} {op a b n f : Int} (h : InstAt w g op a b n f) (o : Obj) : InstAt (w.alloc o) g op a b n f := h.below (ibelow_alloc w o) h.lt
theorem inst_new (w : World) (op a b n f : Int) : InstAt (w.alloc (.cells #[.int .i64 op, .int .i64 a, .int .i64 b, .int .i32 n, .int .i64 f] 81)) w.heap.size op a b n f :=
  ⟨inst_cell w op a b n f 0, inst_cell w op a b n f 1, inst_cell w op a b n f 2, inst_cell w op a b n f 3, inst_cell w op a b n f 4, by simp⟩

theorem op_new (w : World) (s : List UInt8) (b h : Int) : (w.alloc (.cells #[.string (istr s), .int .u8 b, .int .i64 h] 221)).cell? ⟨w.heap.size, 2, none⟩ = some (.int .i64 h) := (cell_block (heap_alloc_new w _) 2).trans rfl

/-- why it is no instruction; 0: it is one -/
def checkN (op a b n f : Int) : Int := if ¬ (1 ≤ op ∧ op ≤ 43) then 11 else if regB a b n (shapeN op).toNat = false then 12 else if numB n f (shapeN op).toNat = false then 13 else 0

theorem shape_nat (op : Int) : ∃ s : Nat, shapeN op = (s : Int) ∧ s < 14 ∧ (shapeN op).toNat = s := by
  have h : 0 ≤ shapeN op ∧ shapeN op ≤ 13 := by
    by_cases h : 1 ≤ op ∧ op ≤ 43
    · have := shapeN_some h
      omega
    · rw [shapeN, if_neg h]
      omega
  exact ⟨(shapeN op).toNat, by omega, by omega, rfl⟩

theorem check_bel {w w0 w1 w2 w3 : World} {o : Obj} (h0 : Below w.heap.size w w0) (h1 : Below w0.heap.size w0 w1) (h2 : Below (w1.alloc o).heap.size (w1.alloc o) w2) (h3 : Below w2.heap.size w2 w3) : Below w.heap.size w w3 := by
  have s0 := h0.size
  have s1 := h1.size
  have s2 := h2.size
  simp at s2
  exact (((h0.trans (h1.mono s0)).alloc (by omega) o).trans (h2.mono (by simp; omega))).trans (h3.mono (by omega))

set_option maxHeartbeats 1000000 in
theorem check_any (op a b n f : Int) (w : World) (hT : Tab w) (hn : -2147483648 ≤ n ∧ n ≤ 2147483647) :
    Calls Tryz.prog 147 #[instV op a b n f] w fun e w' => e = .returned (.int .i64 (checkN op a b n f)) ∧ Below w.heap.size w w' := by
  obtain ⟨s, hs, hs14, hsn⟩ := shape_nat op
  have hI := inst_new w op a b n f
  have hb0 := ibelow_alloc w (.cells #[.int .i64 op, .int .i64 a, .int .i64 b, .int .i32 n, .int .i64 f] 81)
  have hT0 := hT.alloc (.cells #[.int .i64 op, .int .i64 a, .int .i64 b, .int .i32 n, .int .i64 f] 81)
  obtain ⟨R, hR⟩ : ∃ R, R = checkN op a b n f := ⟨_, rfl⟩
  rw [← hR]
  unfold checkN at hR
  rw [hsn] at hR
  by_cases hop : 1 ≤ op ∧ op ≤ 43
  · rw [if_neg (by simpa using hop)] at hR
    have hd : decide (1 ≤ op ∧ op ≤ 43) = true := decide_eq_true hop
    cases hr : regB a b n s with
    | false =>
      rw [if_pos hr] at hR
      have hRH := Hid.intro hR
      have hIH := Hid.intro hI
      have hTH := Hid.intro hT0
      have hbH := Hid.intro hb0
      have hdH := Hid.intro hd
      have hsH := Hid.intro hs
      have hrH := Hid.intro hr
      clear hR hI hT0 hb0 hd hop hT hs hsn hr
      go_enter Tryz.func147, Tryz.ntmps147
      go_wp2_with (first | (go_at_call 170; refine (at_parts _ _ hTH.out).mono ?_; rintro e w1 ⟨⟨nm1, by1, rfl⟩, hb1⟩; rw [hdH.out, hsH.out]; have hI1 := Hid.intro (hIH.out.below hb1 hIH.out.lt); have hT1 := Hid.intro (hTH.out.below hb1 hTH.out.size); have i0 := fun o => (hI1.out.alloc o).o; have i1 := fun o => (hI1.out.alloc o).a; have i2 := fun o => (hI1.out.alloc o).b; have i3 := fun o => (hI1.out.alloc o).n; have i4 := fun o => (hI1.out.alloc o).f; replace hb1 := Hid.intro hb1) | (go_at_call 176; refine (hasRegisters_any _ _ _ _ _ s hs14 _ (hT1.out.alloc _)).mono ?_; rintro e w2 ⟨rfl, hb2⟩; rw [hrH.out]; have hI2 := Hid.intro ((hI1.out.alloc _).below hb2 (hI1.out.alloc _).lt); obtain ⟨j0, j1, j2, j3, j4, _⟩ := hI2.out; have k2 := (hb2.cell (p := ⟨w1.heap.size, 2, none⟩) (by simp)).trans (op_new w1 nm1 by1 s); have hT2 := Hid.intro ((hT1.out.alloc _).below hb2 (hT1.out.alloc _).size); replace hb2 := Hid.intro hb2))
      go_ret
      rw [hRH.out]
      exact ⟨rfl, ((hbH.out.trans (hb1.out.mono hbH.out.size)).alloc (Nat.le_trans hbH.out.size hb1.out.size) _).trans (hb2.out.mono (by have := hbH.out.size; have := hb1.out.size; simp at *; omega))⟩
    | true =>
      rw [if_neg (by simp [hr])] at hR
      cases hm : numB n f s with
      | false =>
        rw [if_pos hm] at hR
        have hRH := Hid.intro hR
        have hIH := Hid.intro hI
        have hTH := Hid.intro hT0
        have hbH := Hid.intro hb0
        have hdH := Hid.intro hd
        have hsH := Hid.intro hs
        have hrH := Hid.intro hr
        have hmH := Hid.intro hm
        clear hR hI hT0 hb0 hd hop hT hs hsn hr hm
        go_enter Tryz.func147, Tryz.ntmps147
        go_wp2_with (first | (go_at_call 170; refine (at_parts _ _ hTH.out).mono ?_; rintro e w1 ⟨⟨nm1, by1, rfl⟩, hb1⟩; rw [hdH.out, hsH.out]; have hI1 := Hid.intro (hIH.out.below hb1 hIH.out.lt); have hT1 := Hid.intro (hTH.out.below hb1 hTH.out.size); have i0 := fun o => (hI1.out.alloc o).o; have i1 := fun o => (hI1.out.alloc o).a; have i2 := fun o => (hI1.out.alloc o).b; have i3 := fun o => (hI1.out.alloc o).n; have i4 := fun o => (hI1.out.alloc o).f; replace hb1 := Hid.intro hb1) | (go_at_call 176; refine (hasRegisters_any _ _ _ _ _ s hs14 _ (hT1.out.alloc _)).mono ?_; rintro e w2 ⟨rfl, hb2⟩; rw [hrH.out]; have hI2 := Hid.intro ((hI1.out.alloc _).below hb2 (hI1.out.alloc _).lt); obtain ⟨j0, j1, j2, j3, j4, _⟩ := hI2.out; have k2 := (hb2.cell (p := ⟨w1.heap.size, 2, none⟩) (by simp)).trans (op_new w1 nm1 by1 s); have hT2 := Hid.intro ((hT1.out.alloc _).below hb2 (hT1.out.alloc _).size); replace hb2 := Hid.intro hb2) | (go_at_call 177; refine (hasNumber_any _ _ _ _ _ s hs14 _ hT2.out hn).mono ?_; rintro e w3 ⟨rfl, hb3⟩; rw [hmH.out]; replace hb3 := Hid.intro hb3))
        go_ret
        rw [hRH.out]
        exact ⟨rfl, check_bel hbH.out hb1.out hb2.out hb3.out⟩
      | true =>
        rw [if_neg (by simp [hm])] at hR
        have hRH := Hid.intro hR
        have hIH := Hid.intro hI
        have hTH := Hid.intro hT0
        have hbH := Hid.intro hb0
        have hdH := Hid.intro hd
        have hsH := Hid.intro hs
        have hrH := Hid.intro hr
        have hmH := Hid.intro hm
        clear hR hI hT0 hb0 hd hop hT hs hsn hr hm
        go_enter Tryz.func147, Tryz.ntmps147
        go_wp2_with (first | (go_at_call 170; refine (at_parts _ _ hTH.out).mono ?_; rintro e w1 ⟨⟨nm1, by1, rfl⟩, hb1⟩; rw [hdH.out, hsH.out]; have hI1 := Hid.intro (hIH.out.below hb1 hIH.out.lt); have hT1 := Hid.intro (hTH.out.below hb1 hTH.out.size); have i0 := fun o => (hI1.out.alloc o).o; have i1 := fun o => (hI1.out.alloc o).a; have i2 := fun o => (hI1.out.alloc o).b; have i3 := fun o => (hI1.out.alloc o).n; have i4 := fun o => (hI1.out.alloc o).f; replace hb1 := Hid.intro hb1) | (go_at_call 176; refine (hasRegisters_any _ _ _ _ _ s hs14 _ (hT1.out.alloc _)).mono ?_; rintro e w2 ⟨rfl, hb2⟩; rw [hrH.out]; have hI2 := Hid.intro ((hI1.out.alloc _).below hb2 (hI1.out.alloc _).lt); obtain ⟨j0, j1, j2, j3, j4, _⟩ := hI2.out; have k2 := (hb2.cell (p := ⟨w1.heap.size, 2, none⟩) (by simp)).trans (op_new w1 nm1 by1 s); have hT2 := Hid.intro ((hT1.out.alloc _).below hb2 (hT1.out.alloc _).size); replace hb2 := Hid.intro hb2) | (go_at_call 177; refine (hasNumber_any _ _ _ _ _ s hs14 _ hT2.out hn).mono ?_; rintro e w3 ⟨rfl, hb3⟩; rw [hmH.out]; replace hb3 := Hid.intro hb3))
        go_ret
        rw [hRH.out]
        exact ⟨rfl, check_bel hbH.out hb1.out hb2.out hb3.out⟩
  · rw [if_pos hop] at hR
    have hd : decide (1 ≤ op ∧ op ≤ 43) = false := decide_eq_false hop
    have hRH := Hid.intro hR
    have hIH := Hid.intro hI
    have hTH := Hid.intro hT0
    have hbH := Hid.intro hb0
    have hdH := Hid.intro hd
    have hsH := Hid.intro hs
    clear hR hI hT0 hb0 hd hop hT hs hsn
    go_enter Tryz.func147, Tryz.ntmps147
    go_wp2_with (go_at_call 170; refine (at_parts _ _ hTH.out).mono ?_; rintro e w1 ⟨⟨nm1, by1, rfl⟩, hb1⟩; rw [hdH.out])
    go_ret
    rw [hRH.out]
    exact ⟨rfl, (hbH.out.trans (hb1.mono hbH.out.size)).alloc (Nat.le_trans hbH.out.size hb1.size) _⟩

end Go.Proofs.YtmndccbeddaphaaGreatDoor
/- What a line says, as a function on its tokens: the small ones. -/
namespace Go.Proofs.YtmndccbeddaphaaGreatDoor
open Go.ChangeShapes Go.WideShapes Go.ChangeAt Go.RowKit
set_option linter.unusedVariables false
set_option maxRecDepth 100000

/-- an item -/
structure Itm where
  kind : Int
  name : List UInt8
  op : Int
  a : Int
  b : Int
  m : Int
  form : Int
  e : Lin
  n : Int

def linE : Lin := ⟨[], 0⟩
def itmE : Itm := ⟨0, [], 0, 0, 0, 0, 0, linE, 0⟩
/-- may n be the number of an item of that kind? -/
def numOfB (kind n : Int) : Bool :=
  if kind = 3 then decide (n = 1 ∨ n = 2 ∨ n = 4 ∨ n = 8 ∨ n = 16 ∨ n = 32 ∨ n = 64 ∨ n = 128 ∨ n = 256)
  else if kind = 5 then decide (-128 ≤ n ∧ n ≤ 255)
  else if kind = 7 then decide (0 ≤ n ∧ n ≤ 1048576)
  else decide (n = 0)

/-- may items of that kind stand in that section? -/
def standsB (kind sec : Int) : Bool :=
  if kind = 1 ∨ kind = 3 then true
  else if kind = 2 ∨ kind = 4 then decide (sec ≠ 1)
  else if kind = 5 ∨ kind = 6 ∨ kind = 7 then decide (sec = 1)
  else false

theorem stands_any (k s : Int) (w : World) :
    Calls Tryz.prog 122 #[.int .i64 k, .int .i64 s] w fun e w' => e = .returned (.bool (standsB k s)) ∧ w' = w := by
  by_cases h1 : k = 1
  · subst h1; go_enter Tryz.func122, Tryz.ntmps122; go_wp2; go_ret; exact ⟨rfl, rfl⟩
  by_cases h3 : k = 3
  · subst h3; go_enter Tryz.func122, Tryz.ntmps122; go_wp2; go_ret; exact ⟨rfl, rfl⟩
  by_cases h2 : k = 2
  · subst h2; go_enter Tryz.func122, Tryz.ntmps122; go_wp2; go_ret; exact ⟨by simp [standsB]; try rfl, rfl⟩
  by_cases h4 : k = 4
  · subst h4; go_enter Tryz.func122, Tryz.ntmps122; go_wp2; go_ret; exact ⟨by simp [standsB]; try rfl, rfl⟩
  by_cases h5 : k = 5
  · subst h5; go_enter Tryz.func122, Tryz.ntmps122; go_wp2; go_ret; exact ⟨by simp [standsB]; try rfl, rfl⟩
  by_cases h6 : k = 6
  · subst h6; go_enter Tryz.func122, Tryz.ntmps122; go_wp2; go_ret; exact ⟨by simp [standsB]; try rfl, rfl⟩
  by_cases h7 : k = 7
  · subst h7; go_enter Tryz.func122, Tryz.ntmps122; go_wp2; go_ret; exact ⟨by simp [standsB]; try rfl, rfl⟩
  have hs : standsB k s = false := by simp [standsB, h1, h2, h3, h4, h5, h6, h7]
  rw [hs]
  go_enter Tryz.func122, Tryz.ntmps122
  go_wp2
  go_ret
  exact ⟨rfl, rfl⟩

theorem and_small : ∀ m : Fin 257, 1 ≤ m.val → (bits BinOp.and IntKind.i64 (m.val : Int) ((m.val : Int) - 1) == 0) = numOfB 3 (m.val : Int) := by decide +kernel

theorem isNumberOf_any (k n : Int) (w : World) (hn : -9223372036854775808 ≤ n ∧ n ≤ 9223372036854775807) :
    Calls Tryz.prog 126 #[.int .i64 k, .int .i64 n] w fun e w' => e = .returned (.bool (numOfB k n)) ∧ w' = w := by
  by_cases h3 : k = 3
  · subst h3
    by_cases h1 : 1 ≤ n
    · by_cases h2 : n ≤ 256
      · go_enter Tryz.func126, Tryz.ntmps126
        go_wp2
        go_ret
        refine ⟨?_, rfl⟩
        have hm : (n.toNat : Int) = n := by omega
        have := and_small ⟨n.toNat, by omega⟩ (by show 1 ≤ n.toNat; omega)
        simp only [hm] at this
        rw [← this]
        rfl
      · have hz : numOfB 3 n = false := by simp [numOfB]; omega
        rw [hz]
        go_enter Tryz.func126, Tryz.ntmps126
        go_wp2
        go_ret
        exact ⟨rfl, rfl⟩
    · have hz : numOfB 3 n = false := by simp [numOfB]; omega
      rw [hz]
      go_enter Tryz.func126, Tryz.ntmps126
      go_wp2
      go_ret
      exact ⟨rfl, rfl⟩
  by_cases h5 : k = 5
  · subst h5
    have hz : numOfB 5 n = (decide (-128 ≤ n) && decide (n ≤ 255)) := by simp [numOfB]
    rw [hz]
    by_cases h1 : -128 ≤ n
    · go_enter Tryz.func126, Tryz.ntmps126
      go_wp2
      go_ret
      exact ⟨by simp [h1]; try rfl, rfl⟩
    · have hf : decide (-128 ≤ n) = false := by simp [h1]
      rw [hf, Bool.false_and]
      go_enter Tryz.func126, Tryz.ntmps126
      go_wp2
      go_ret
      exact ⟨rfl, rfl⟩
  by_cases h7 : k = 7
  · subst h7
    have hz : numOfB 7 n = (decide (0 ≤ n) && decide (n ≤ 1048576)) := by simp [numOfB]
    rw [hz]
    by_cases h1 : 0 ≤ n
    · go_enter Tryz.func126, Tryz.ntmps126
      go_wp2
      go_ret
      exact ⟨by simp [h1]; try rfl, rfl⟩
    · have hf : decide (0 ≤ n) = false := by simp [h1]
      rw [hf, Bool.false_and]
      go_enter Tryz.func126, Tryz.ntmps126
      go_wp2
      go_ret
      exact ⟨rfl, rfl⟩
  have hz : numOfB k n = decide (n = 0) := by simp [numOfB, h3, h5, h7]
  rw [hz]
  go_enter Tryz.func126, Tryz.ntmps126
  go_wp2
  go_ret
  exact ⟨by simp; try rfl, rfl⟩

end Go.Proofs.YtmndccbeddaphaaGreatDoor
/- item's readOne: constants and expressions. -/
namespace Go.Proofs.YtmndccbeddaphaaGreatDoor
open Go.ChangeShapes Go.WideShapes Go.ChangeAt Go.RowKit
set_option linter.unusedVariables false
set_option maxRecDepth 100000

theorem Tab.grown {w w' : World} {b : Nat} (h : Tab w) (hg : w.grownBy w' (some b)) (hb : 3 ≤ b) : Tab w' := by
  obtain ⟨⟨t, z, h1⟩, t2, z2, h2⟩ := h
  have l0 := (Array.getElem?_eq_some_iff.1 h1).1
  have l1 := (Array.getElem?_eq_some_iff.1 h2).1
  exact ⟨⟨t, z, by rw [hg.block 0 l0 (by simp; omega)]; exact h1⟩, t2, z2, by rw [hg.block 2 l1 (by simp; omega)]; exact h2⟩

end Go.Proofs.YtmndccbeddaphaaGreatDoor
namespace Go.Proofs.YtmndccbeddaphaaGreatDoor
open Go.ChangeShapes Go.WideShapes Go.ChangeAt Go.RowKit
set_option linter.unusedVariables false
set_option maxRecDepth 100000

/-- an item in memory, from cell o of block g on -/
structure ItAt (w : World) (g o : Nat) (x : Itm) (va : Option Addr) (n vc : Nat) : Prop where
  kind : w.cell? ⟨g, o, none⟩ = some (.int .i64 x.kind)
  name : w.cell? ⟨g, o + 1, none⟩ = some (.string (str x.name))
  op : w.cell? ⟨g, o + 2, none⟩ = some (.int .i64 x.op)
  a : w.cell? ⟨g, o + 3, none⟩ = some (.int .i64 x.a)
  b : w.cell? ⟨g, o + 4, none⟩ = some (.int .i64 x.b)
  m : w.cell? ⟨g, o + 5, none⟩ = some (.int .i32 x.m)
  form : w.cell? ⟨g, o + 6, none⟩ = some (.int .i64 x.form)
  terms : w.cell? ⟨g, o + 7, none⟩ = some (.slice va n vc)
  const : w.cell? ⟨g, o + 8, none⟩ = some (.int .u32 x.e.const)
  n : w.cell? ⟨g, o + 9, none⟩ = some (.int .i64 x.n)

abbrev itmCells (x : Itm) (v : Value) : Array Value := #[.int .i64 x.kind, .string (str x.name), .int .i64 x.op, .int .i64 x.a, .int .i64 x.b, .int .i32 x.m, .int .i64 x.form, v, .int .u32 x.e.const, .int .i64 x.n]

end Go.Proofs.YtmndccbeddaphaaGreatDoor
