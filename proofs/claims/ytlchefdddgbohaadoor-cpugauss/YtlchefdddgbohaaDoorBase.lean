/- Contracts of isa's small functions. -/
import Derived.Test.YtlchefdddgbohaaDoorTab
namespace Go.Proofs.YtlchefdddgbohaaDoor
open Go.ChangeShapes Go.WideShapes Go.ChangeAt Go.RowKit
set_option linter.unusedVariables false
set_option maxRecDepth 100000

abbrev instV (op a b n f : Int) : Value := .agg #[.int .i64 op, .int .i64 a, .int .i64 b, .int .i32 n, .int .i64 f]
abbrev opV (s : List UInt8) (b h : Int) : Value := .agg #[.string (str s), .int .u8 b, .int .i64 h]
abbrev limV (a b l m z : Int) : Value := .agg #[.int .i64 a, .int .i64 b, .int .i32 l, .int .i32 m, .int .i64 z]

theorem Hid.intro {p : Prop} (h : p) : Hid p := h
theorem below_alloc (w : World) (o : Obj) : Below w.heap.size w (w.alloc o) := (Below.refl _ w).alloc (Nat.le_refl _) o

def spansB (s : Int) : Bool := s == 12 || s == 13

theorem spans_any (s : Int) (w : World) :
    Calls Tryd.prog 63 #[.int .i64 s] w fun e w' => e = .returned (.bool (spansB s)) ∧ w' = w := by
  by_cases h1 : s = 12
  · subst h1
    go_enter Tryd.func63, Tryd.ntmps63
    go_wp2
    go_ret
    exact ⟨rfl, rfl⟩
  · have e1 : (s == 12) = false := by simpa using h1
    have hs : spansB s = (s == 13) := by simp [spansB, e1]
    rw [hs]
    go_enter Tryd.func63, Tryd.ntmps63
    go_wp2
    go_ret
    exact ⟨rfl, rfl⟩

/-- can m bytes hold n with its sign? -/
def fitsB (n m : Int) : Bool := if m = 1 then decide (-128 ≤ n ∧ n ≤ 127) else if m = 2 then decide (-32768 ≤ n ∧ n ≤ 32767) else if m = 4 then true else false

theorem i8wrap (n : Int) : IntKind.i8.wrap n = (n + 128) % 256 - 128 := by
  simp only [IntKind.wrap, IntKind.bits, IntKind.signed]
  simp
  split <;> omega
theorem i16wrap (n : Int) : IntKind.i16.wrap n = (n + 32768) % 65536 - 32768 := by
  simp only [IntKind.wrap, IntKind.bits, IntKind.signed]
  simp
  split <;> omega

theorem reaches_any (n m : Int) (w : World) (h : -2147483648 ≤ n ∧ n ≤ 2147483647) :
    Calls Tryd.prog 64 #[.int .i32 n, .int .i64 m] w fun e w' => e = .returned (.bool (fitsB n m)) ∧ w' = w := by
  by_cases h1 : m = 1
  · subst h1
    have hs : fitsB n 1 = (n == wrap32 (IntKind.i8.wrap n)) := by
      rw [Bool.eq_iff_iff]
      simp [fitsB, wrap32, i8wrap]
      omega
    rw [hs]
    go_enter Tryd.func64, Tryd.ntmps64
    go_wp2
    go_ret
    exact ⟨rfl, rfl⟩
  · have e1 : (m == 1) = false := by simpa using h1
    by_cases h2 : m = 2
    · subst h2
      have hs : fitsB n 2 = (n == wrap32 (IntKind.i16.wrap n)) := by
        rw [Bool.eq_iff_iff]
        simp [fitsB, wrap32, i16wrap]
        omega
      rw [hs]
      go_enter Tryd.func64, Tryd.ntmps64
      go_wp2
      go_ret
      exact ⟨rfl, rfl⟩
    · have e2 : (m == 2) = false := by simpa using h2
      have hs : fitsB n m = (m == 4) := by
        simp only [fitsB, h1, h2, if_false]
        by_cases h4 : m = 4 <;> simp [h4]
      rw [hs]
      go_enter Tryd.func64, Tryd.ntmps64
      go_wp2
      go_ret
      exact ⟨rfl, rfl⟩

theorem fits_any (n m : Int) (w : World) :
    Calls Tryd.prog 58 #[.int .i32 n, .int .i64 m] w fun e w' => e = .returned (.bool (fitsB n m)) ∧ w' = w := by
  by_cases h1 : m = 1
  · subst h1
    have hs : fitsB n 1 = (decide (-128 ≤ n) && decide (n ≤ 127)) := by simp [fitsB]
    rw [hs]
    by_cases hl : -128 ≤ n
    · go_enter Tryd.func58, Tryd.ntmps58
      go_wp2
      go_ret
      exact ⟨by simp [hl], rfl⟩
    · have hd : decide (-128 ≤ n) = false := decide_eq_false hl
      rw [hd]
      go_enter Tryd.func58, Tryd.ntmps58
      go_wp2
      go_ret
      exact ⟨rfl, rfl⟩
  · have e1 : (m == 1) = false := by simpa using h1
    by_cases h2 : m = 2
    · subst h2
      have hs : fitsB n 2 = (decide (-32768 ≤ n) && decide (n ≤ 32767)) := by simp [fitsB]
      rw [hs]
      by_cases hl : -32768 ≤ n
      · go_enter Tryd.func58, Tryd.ntmps58
        go_wp2
        go_ret
        exact ⟨by simp [hl], rfl⟩
      · have hd : decide (-32768 ≤ n) = false := decide_eq_false hl
        rw [hd]
        go_enter Tryd.func58, Tryd.ntmps58
        go_wp2
        go_ret
        exact ⟨rfl, rfl⟩
    · have e2 : (m == 2) = false := by simpa using h2
      by_cases h4 : m = 4
      · subst h4
        go_enter Tryd.func58, Tryd.ntmps58
        go_wp2
        go_ret
        exact ⟨rfl, rfl⟩
      · have e4 : (m == 4) = false := by simpa using h4
        have hs : fitsB n m = false := by simp [fitsB, h1, h2, h4]
        rw [hs]
        go_enter Tryd.func58, Tryd.ntmps58
        go_wp2
        go_ret
        exact ⟨rfl, rfl⟩

theorem inEnds_any (n a b l m z : Int) (w : World) :
    Calls Tryd.prog 62 #[.int .i32 n, limV a b l m z] w fun e w' => e = .returned (.bool (decide (l ≤ n) && decide (n ≤ m))) ∧ Below w.heap.size w w' := by
  by_cases hl : l ≤ n
  · go_enter Tryd.func62, Tryd.ntmps62
    go_wp2
    go_ret
    exact ⟨by simp [hl], below_alloc _ _⟩
  · have hd : decide (l ≤ n) = false := decide_eq_false hl
    rw [hd]
    go_enter Tryd.func62, Tryd.ntmps62
    go_wp2
    go_ret
    exact ⟨rfl, below_alloc _ _⟩

/-- what At answers -/
def atV (op : Int) : Value := if 1 ≤ op ∧ op ≤ 43 then .tuple #[opV (nameAt (op - 1).toNat) (byteAt (op - 1).toNat) (shapeAt (op - 1).toNat), .bool true] else .tuple #[opV [] 0 0, .bool false]

theorem Tab.alloc {w : World} (h : Tab w) (o : Obj) : Tab (w.alloc o) := h.below (below_alloc w o) h.size

theorem at_any (op : Int) (w : World) (hT : Tab w) :
    Calls Tryd.prog 42 #[.int .i64 op] w fun e w' => e = .returned (atV op) ∧ Below w.heap.size w w' := by
  by_cases h1 : op < 1
  · have hr : atV op = .tuple #[opV [] 0 0, .bool false] := by rw [atV, if_neg (by omega)]
    rw [hr]
    go_enter Tryd.func42, Tryd.ntmps42
    go_wp2
    go_returns
    exact ⟨rfl, below_alloc _ _⟩
  · by_cases h2 : op > 43
    · have hr : atV op = .tuple #[opV [] 0 0, .bool false] := by rw [atV, if_neg (by omega)]
      rw [hr]
      go_enter Tryd.func42, Tryd.ntmps42
      go_wp2
      go_returns
      exact ⟨rfl, below_alloc _ _⟩
    · obtain ⟨i, rfl⟩ : ∃ i : Nat, op = (i : Int) + 1 := ⟨(op - 1).toNat, by omega⟩
      have hr : atV ((i : Int) + 1) = .tuple #[opV (nameAt i) (byteAt i) (shapeAt i), .bool true] := by rw [atV, if_pos (by omega), show ((i : Int) + 1 - 1).toNat = i by omega]
      rw [hr]
      have q0 := fun o => ((hT.alloc o).op i (by omega)).1
      have q1 := fun o => ((hT.alloc o).op i (by omega)).2.1
      have q2 := fun o => ((hT.alloc o).op i (by omega)).2.2
      have hsz := hT.size
      go_enter Tryd.func42, Tryd.ntmps42
      go_wp2
      all_goals first | omega | skip
      go_returns
      exact ⟨rfl, below_alloc _ _⟩
end Go.Proofs.YtlchefdddgbohaaDoor
