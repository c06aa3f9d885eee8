/- item's Read of an operation's line. -/
import Derived.Test.YtmndccbeddaphaaGreatDoorConcat
import Derived.Test.YtmndccbeddaphaaGreatDoorLinM
import Derived.Test.YtmndccbeddaphaaGreatDoorIFind
import Derived.Test.YtmndccbeddaphaaGreatDoorRefRd
import Derived.Laws.EntriesVeiled
import Derived.Test.YtmndccbeddaphaaGreatDoorILen
/- What a line says, as a function on its tokens: the small ones. -/
namespace Go.Proofs.YtmndccbeddaphaaGreatDoor
open Go.ChangeShapes Go.WideShapes Go.ChangeAt Go.RowKit
set_option linter.unusedVariables false
set_option maxRecDepth 100000

/-- an item -/
structure Itm where
  kind : Int
  name : List UInt8
  op : Int
  a : Int
  b : Int
  m : Int
  form : Int
  e : Lin
  n : Int

def linE : Lin := ⟨[], 0⟩
def itmE : Itm := ⟨0, [], 0, 0, 0, 0, 0, linE, 0⟩
/-- may n be the number of an item of that kind? -/
def numOfB (kind n : Int) : Bool :=
  if kind = 3 then decide (n = 1 ∨ n = 2 ∨ n = 4 ∨ n = 8 ∨ n = 16 ∨ n = 32 ∨ n = 64 ∨ n = 128 ∨ n = 256)
  else if kind = 5 then decide (-128 ≤ n ∧ n ≤ 255)
  else if kind = 7 then decide (0 ≤ n ∧ n ≤ 1048576)
  else decide (n = 0)

/-- may items of that kind stand in that section? -/
def standsB (kind sec : Int) : Bool :=
  if kind = 1 ∨ kind = 3 then true
  else if kind = 2 ∨ kind = 4 then decide (sec ≠ 1)
  else if kind = 5 ∨ kind = 6 ∨ kind = 7 then decide (sec = 1)
  else false

theorem stands_any (k s : Int) (w : World) :
    Calls Tryz.prog 122 #[.int .i64 k, .int .i64 s] w fun e w' => e = .returned (.bool (standsB k s)) ∧ w' = w := by
  by_cases h1 : k = 1
  · subst h1; go_enter Tryz.func122, Tryz.ntmps122; go_wp2; go_ret; exact ⟨rfl, rfl⟩
  by_cases h3 : k = 3
  · subst h3; go_enter Tryz.func122, Tryz.ntmps122; go_wp2; go_ret; exact ⟨rfl, rfl⟩
  by_cases h2 : k = 2
  · subst h2; go_enter Tryz.func122, Tryz.ntmps122; go_wp2; go_ret; exact ⟨by simp [standsB]; try rfl, rfl⟩
  by_cases h4 : k = 4
  · subst h4; go_enter Tryz.func122, Tryz.ntmps122; go_wp2; go_ret; exact ⟨by simp [standsB]; try rfl, rfl⟩
  by_cases h5 : k = 5
  · subst h5; go_enter Tryz.func122, Tryz.ntmps122; go_wp2; go_ret; exact ⟨by simp [standsB]; try rfl, rfl⟩
  by_cases h6 : k = 6
  · subst h6; go_enter Tryz.func122, Tryz.ntmps122; go_wp2; go_ret; exact ⟨by simp [standsB]; try rfl, rfl⟩
  by_cases h7 : k = 7
  · subst h7; go_enter Tryz.func122, Tryz.ntmps122; go_wp2; go_ret; exact ⟨by simp [standsB]; try rfl, rfl⟩
  have hs : standsB k s = false := by simp [standsB, h1, h2, h3, h4, h5, h6, h7]
  rw [hs]
  go_enter Tryz.func122, Tryz.ntmps122
  go_wp2
  go_ret
  exact ⟨rfl, rfl⟩

theorem and_small : ∀ m : Fin 257, 1 ≤ m.val → (bits BinOp.and IntKind.i64 (m.val : Int) ((m.val : Int) - 1) == 0) = numOfB 3 (m.val : Int) := by decide +kernel

theorem isNumberOf_any (k n : Int) (w : World) (hn : -9223372036854775808 ≤ n ∧ n ≤ 9223372036854775807) :
    Calls Tryz.prog 126 #[.int .i64 k, .int .i64 n] w fun e w' => e = .returned (.bool (numOfB k n)) ∧ w' = w := by
  by_cases h3 : k = 3
  · subst h3
    by_cases h1 : 1 ≤ n
    · by_cases h2 : n ≤ 256
      · go_enter Tryz.func126, Tryz.ntmps126
        go_wp2
        go_ret
        refine ⟨?_, rfl⟩
        have hm : (n.toNat : Int) = n := by omega
        have := and_small ⟨n.toNat, by omega⟩ (by show 1 ≤ n.toNat; omega)
        simp only [hm] at this
        rw [← this]
        rfl
      · have hz : numOfB 3 n = false := by simp [numOfB]; omega
        rw [hz]
        go_enter Tryz.func126, Tryz.ntmps126
        go_wp2
        go_ret
        exact ⟨rfl, rfl⟩
    · have hz : numOfB 3 n = false := by simp [numOfB]; omega
      rw [hz]
      go_enter Tryz.func126, Tryz.ntmps126
      go_wp2
      go_ret
      exact ⟨rfl, rfl⟩
  by_cases h5 : k = 5
  · subst h5
    have hz : numOfB 5 n = (decide (-128 ≤ n) && decide (n ≤ 255)) := by simp [numOfB]
    rw [hz]
    by_cases h1 : -128 ≤ n
    · go_enter Tryz.func126, Tryz.ntmps126
      go_wp2
      go_ret
      exact ⟨by simp [h1]; try rfl, rfl⟩
    · have hf : decide (-128 ≤ n) = false := by simp [h1]
      rw [hf, Bool.false_and]
      go_enter Tryz.func126, Tryz.ntmps126
      go_wp2
      go_ret
      exact ⟨rfl, rfl⟩
  by_cases h7 : k = 7
  · subst h7
    have hz : numOfB 7 n = (decide (0 ≤ n) && decide (n ≤ 1048576)) := by simp [numOfB]
    rw [hz]
    by_cases h1 : 0 ≤ n
    · go_enter Tryz.func126, Tryz.ntmps126
      go_wp2
      go_ret
      exact ⟨by simp [h1]; try rfl, rfl⟩
    · have hf : decide (0 ≤ n) = false := by simp [h1]
      rw [hf, Bool.false_and]
      go_enter Tryz.func126, Tryz.ntmps126
      go_wp2
      go_ret
      exact ⟨rfl, rfl⟩
  have hz : numOfB k n = decide (n = 0) := by simp [numOfB, h3, h5, h7]
  rw [hz]
  go_enter Tryz.func126, Tryz.ntmps126
  go_wp2
  go_ret
  exact ⟨by simp; try rfl, rfl⟩

end Go.Proofs.YtmndccbeddaphaaGreatDoor
/- item's readOne: constants and expressions. -/
namespace Go.Proofs.YtmndccbeddaphaaGreatDoor
open Go.ChangeShapes Go.WideShapes Go.ChangeAt Go.RowKit
set_option linter.unusedVariables false
set_option maxRecDepth 100000

theorem Tab.grown {w w' : World} {b : Nat} (h : Tab w) (hg : w.grownBy w' (some b)) (hb : 3 ≤ b) : Tab w' := by
  obtain ⟨⟨t, z, h1⟩, t2, z2, h2⟩ := h
  have l0 := (Array.getElem?_eq_some_iff.1 h1).1
  have l1 := (Array.getElem?_eq_some_iff.1 h2).1
  exact ⟨⟨t, z, by rw [hg.block 0 l0 (by simp; omega)]; exact h1⟩, t2, z2, by rw [hg.block 2 l1 (by simp; omega)]; exact h2⟩

end Go.Proofs.YtmndccbeddaphaaGreatDoor
/- item's readerOf, said, Read of an operation's line. -/
namespace Go.Proofs.YtmndccbeddaphaaGreatDoor
open Go.ChangeShapes Go.WideShapes Go.ChangeAt Go.RowKit
set_option linter.unusedVariables false
set_option maxRecDepth 100000

/-- an item in memory, from cell o of block g on -/
structure ItAt (w : World) (g o : Nat) (x : Itm) (va : Option Addr) (n vc : Nat) : Prop where
  kind : w.cell? ⟨g, o, none⟩ = some (.int .i64 x.kind)
  name : w.cell? ⟨g, o + 1, none⟩ = some (.string (str x.name))
  op : w.cell? ⟨g, o + 2, none⟩ = some (.int .i64 x.op)
  a : w.cell? ⟨g, o + 3, none⟩ = some (.int .i64 x.a)
  b : w.cell? ⟨g, o + 4, none⟩ = some (.int .i64 x.b)
  m : w.cell? ⟨g, o + 5, none⟩ = some (.int .i32 x.m)
  form : w.cell? ⟨g, o + 6, none⟩ = some (.int .i64 x.form)
  terms : w.cell? ⟨g, o + 7, none⟩ = some (.slice va n vc)
  const : w.cell? ⟨g, o + 8, none⟩ = some (.int .u32 x.e.const)
  n : w.cell? ⟨g, o + 9, none⟩ = some (.int .i64 x.n)

abbrev itmCells (x : Itm) (v : Value) : Array Value := #[.int .i64 x.kind, .string (str x.name), .int .i64 x.op, .int .i64 x.a, .int .i64 x.b, .int .i32 x.m, .int .i64 x.form, v, .int .u32 x.e.const, .int .i64 x.n]

end Go.Proofs.YtmndccbeddaphaaGreatDoor
/- Items that are owned, with their terms. -/
namespace Go.Proofs.YtmndccbeddaphaaGreatDoor
open Go.ChangeShapes Go.WideShapes Go.ChangeAt Go.RowKit
set_option linter.unusedVariables false
set_option maxRecDepth 100000

theorem own_keptB {w w' : World} {B : Nat} {e : TypeId} {size : Nat} {v : Value} {n : Nat} {xs : List Value} (h : w.ownsRow B e size v n xs) (hb : Below w.heap.size w w') : w'.ownsRow B e size v n xs :=
  h.kept (grown_of_below hb) (by cases v.ownBlock <;> simp)

/-- the row of some items, each with the slice of its terms -/
def rowI (p : List (Itm × Value)) : List Value := p.flatMap fun q => (itmCells q.1 q.2).toList
theorem rowI_length (p : List (Itm × Value)) : (rowI p).length = p.length * 10 := by
  induction p with
  | nil => rfl
  | cons q p ih => simp [rowI] at ih ⊢; omega

structure ItOwn (lo : Nat) (w : World) (v : Value) (p : List (Itm × Value)) : Prop where
  row : w.ownsRow lo 86 10 v p.length (rowI p)
  each : ∀ q ∈ p, w.ownsRow lo 107 2 q.2 q.1.e.terms.length (rowT q.1.e.terms)

end Go.Proofs.YtmndccbeddaphaaGreatDoor
namespace Go.Proofs.YtmndccbeddaphaaGreatDoor
open Go.ChangeShapes Go.WideShapes Go.ChangeAt Go.RowKit
set_option linter.unusedVariables false
set_option maxRecDepth 100000

theorem blk_lt {w : World} {g : Nat} {o : Obj} (h : w.heap[g]? = some o) : g < w.heap.size := (Array.getElem?_eq_some_iff.1 h).1

end Go.Proofs.YtmndccbeddaphaaGreatDoor
