/- Both Rights answer alike. -/
import Derived.Test.YtlkmegchaeokgaaGreatDoorIt9
import Derived.Test.YtlkmegchaeokgaaGreatDoorRefRight
import Derived.Test.YtlkmegchaeokgaaGreatDoorIRefK
/- item's Right: its parts. -/
namespace Go.Proofs.YtlkmegchaeokgaaGreatDoor
open Go.ChangeShapes Go.WideShapes Go.ChangeAt Go.RowKit
set_option linter.unusedVariables false
set_option maxRecDepth 100000

abbrev itA (k : Int) (s : ByteArray) (op a b m f : Int) (va : Option Addr) (ln vc : Nat) (c n : Int) : Array Value := #[.int .i64 k, .string s, .int .i64 op, .int .i64 a, .int .i64 b, .int .i32 m, .int .i64 f, .slice va ln vc, .int .u32 c, .int .i64 n]
abbrev itV (k : Int) (s : ByteArray) (op a b m f : Int) (va : Option Addr) (ln vc : Nat) (c n : Int) : Value := .agg (itA k s op a b m f va ln vc c n)

/-- has an operation an expression, by its shape? -/
def shE (S : Int) : Bool := S == 10 || S == 11 || S == 12 || S == 13
def hasEB (k op : Int) : Bool := if k = 2 then shE (shapeN op) else decide (k = 6)

theorem hasExpression_any (k : Int) (s : ByteArray) (op a b m f : Int) (va : Option Addr) (ln vc : Nat) (c n : Int) (w : World) (hT : Tab w) :
    Calls Tryz.prog 47 #[itV k s op a b m f va ln vc c n] w fun e w' => e = .returned (.bool (hasEB k op)) ∧ Below w.heap.size w w' := by
  by_cases hk : k = 2
  · subst hk
    rw [show hasEB 2 op = shE (shapeN op) from rfl]
    have hat := Hid.intro (at_parts op (w.alloc (.cells (itA 2 s op a b m f va ln vc c n) 33)) (hT.alloc _))
    generalize shapeN op = S at hat ⊢
    generalize decide (1 ≤ op ∧ op ≤ 43) = ok at hat
    have hb0 := below_alloc w (.cells (itA 2 s op a b m f va ln vc c n) 33)
    have hs0 : (w.alloc (.cells (itA 2 s op a b m f va ln vc c n) 33)).heap.size = w.heap.size + 1 := by simp
    clear hT
    by_cases h10 : S = 10
    · subst h10
      go_enter Tryz.func47, Tryz.ntmps47
      go_wp2_with (go_at_call 73; (with_reducible refine (hat.out).mono ?_); rintro e w1 ⟨⟨s1, b1, rfl⟩, hb1⟩)
      all_goals first | omega | skip
      go_ret
      exact ⟨rfl, (hb0.trans (hb1.mono (by omega))).alloc (by have := hb1.size; omega) _⟩
    by_cases h11 : S = 11
    · subst h11
      go_enter Tryz.func47, Tryz.ntmps47
      go_wp2_with (go_at_call 73; (with_reducible refine (hat.out).mono ?_); rintro e w1 ⟨⟨s1, b1, rfl⟩, hb1⟩)
      all_goals first | omega | skip
      go_ret
      exact ⟨rfl, (hb0.trans (hb1.mono (by omega))).alloc (by have := hb1.size; omega) _⟩
    by_cases h12 : S = 12
    · subst h12
      go_enter Tryz.func47, Tryz.ntmps47
      go_wp2_with (go_at_call 73; (with_reducible refine (hat.out).mono ?_); rintro e w1 ⟨⟨s1, b1, rfl⟩, hb1⟩)
      all_goals first | omega | skip
      go_ret
      exact ⟨rfl, (hb0.trans (hb1.mono (by omega))).alloc (by have := hb1.size; omega) _⟩
    by_cases h13 : S = 13
    · subst h13
      go_enter Tryz.func47, Tryz.ntmps47
      go_wp2_with (go_at_call 73; (with_reducible refine (hat.out).mono ?_); rintro e w1 ⟨⟨s1, b1, rfl⟩, hb1⟩)
      all_goals first | omega | skip
      go_ret
      exact ⟨rfl, (hb0.trans (hb1.mono (by omega))).alloc (by have := hb1.size; omega) _⟩
    have hno : shE S = false := by simp [shE, h10, h11, h12, h13]
    rw [hno]
    have g10 : (S == 10) = false := by simp [h10]
    have g11 : (S == 11) = false := by simp [h11]
    have g12 : (S == 12) = false := by simp [h12]
    have g13 : (S == 13) = false := by simp [h13]
    go_enter Tryz.func47, Tryz.ntmps47
    go_wp2_with (go_at_call 73; (with_reducible refine (hat.out).mono ?_); rintro e w1 ⟨⟨s1, b1, rfl⟩, hb1⟩)
    all_goals first | omega | skip
    go_ret
    exact ⟨rfl, (hb0.trans (hb1.mono (by omega))).alloc (by have := hb1.size; omega) _⟩
  · have hF : hasEB k op = decide (k = 6) := by simp [hasEB, hk]
    rw [hF]
    have hk' : (k == 2) = false := by simp [hk]
    by_cases h6 : k = 6
    · subst h6
      go_enter Tryz.func47, Tryz.ntmps47
      go_wp2
      all_goals first | omega | skip
      go_ret
      exact ⟨rfl, below_alloc w _⟩
    · have h6' : (k == 6) = false := by simp [h6]
      rw [show decide (k = 6) = false by simp [h6]]
      go_enter Tryz.func47, Tryz.ntmps47
      go_wp2
      all_goals first | omega | skip
      go_ret
      exact ⟨by first | rfl | simp [h6'], below_alloc w _⟩

/-- a name, by kind -/
def nameB (k : Int) (s : ByteArray) : Bool := if k = 1 then legB s else decide (s.toList = [])

theorem rightName_any (k : Int) (s : ByteArray) (hs : s.size ≤ 1100000) (op a b m f : Int) (va : Option Addr) (ln vc : Nat) (c n : Int) (w : World) :
    Calls Tryz.prog 24 #[itV k s op a b m f va ln vc c n] w fun e w' => e = .returned (.bool (nameB k s)) ∧ Below w.heap.size w w' := by
  have hb0 := below_alloc w (.cells (itA k s op a b m f va ln vc c n) 33)
  have hs0 : (w.alloc (.cells (itA k s op a b m f va ln vc c n) 33)).heap.size = w.heap.size + 1 := by simp
  by_cases hk : k = 1
  · subst hk
    rw [show nameB 1 s = legB s from rfl]
    have hl := Hid.intro (fun w1 => legal_any s hs w1)
    generalize legB s = lb at hl ⊢
    go_enter Tryz.func24, Tryz.ntmps24
    go_wp2_with (go_at_call 18; (with_reducible refine (hl.out _).mono ?_); rintro e w1 ⟨rfl, hb1⟩)
    all_goals first | omega | skip
    go_ret
    exact ⟨rfl, hb0.trans (hb1.mono (by omega))⟩
  · have hk' : (k == 1) = false := by simp [hk]
    have hF : nameB k s = decide (s.toList = []) := by simp [nameB, hk]
    rw [hF]
    go_enter Tryz.func24, Tryz.ntmps24
    go_wp2
    all_goals first | omega | skip
    go_ret
    refine ⟨?_, hb0⟩
    first | rfl | (congr 2; by_cases h : s.toList = [] <;> simp [h])

/-- an expression, by whether there must be one -/
def exprB (h : Bool) (ts : List Tm) (c : Int) : Bool := if h then rightF none ts else decide (ts.length = 0) && decide (c = 0)

theorem rightExpression_any (k : Int) (s : ByteArray) (op a b m f : Int) (va : Option Addr) (vc : Nat) (ts : List Tm) (c n : Int) (w : World) (hT : Tab w) (hL : TmLies w va ts) (hm : ts.length ≤ 9000000) (hN : ∀ t ∈ ts, t.name.length ≤ 1100000) :
    Calls Tryz.prog 26 #[itV k s op a b m f va ts.length vc c n] w fun e w' => e = .returned (.bool (exprB (hasEB k op) ts c)) ∧ Below w.heap.size w w' := by
  have hb0 := below_alloc w (.cells (itA k s op a b m f va ts.length vc c n) 33)
  have hs0 : (w.alloc (.cells (itA k s op a b m f va ts.length vc c n) 33)).heap.size = w.heap.size + 1 := by simp
  have hh := hasExpression_any k s op a b m f va ts.length vc c n (w.alloc (.cells (itA k s op a b m f va ts.length vc c n) 33)) (hT.alloc _)
  have hr := Hid.intro (fun w1 (h1 : Below w.heap.size w w1) => right_any va vc ts c w1 (hL.below h1 (Nat.le_refl _)) hm hN)
  have hrow := heap_alloc_new w (.cells (itA k s op a b m f va ts.length vc c n) 33)
  have hex : exprB (hasEB k op) ts c = if hasEB k op then rightF none ts else decide (ts.length = 0) && decide (c = 0) := rfl
  rw [hex]
  clear hex
  generalize rightF none ts = rf at hr ⊢
  generalize ts.length = ln at hh hr hrow hb0 hs0 ⊢
  generalize hasEB k op = hE at hh ⊢
  replace hh := Hid.intro hh
  have hst : Hid (∀ w1, Below (w.alloc (.cells (itA k s op a b m f va ln vc c n) 33)).heap.size (w.alloc (.cells (itA k s op a b m f va ln vc c n) 33)) w1 → w1.heap[w.heap.size]? = some (.cells (itA k s op a b m f va ln vc c n) 33 (0, 0)) ∧ Below w.heap.size w w1) := fun w1 h1 => ⟨by rw [h1.block _ (by omega)]; exact hrow, hb0.trans (h1.mono (by omega))⟩
  clear hrow hL hN hT hb0 hs0
  cases hE
  · by_cases hl : ln = 0
    · subst hl
      go_enter Tryz.func26, Tryz.ntmps26
      go_wp2_with (go_at_call 47; (with_reducible refine (hh.out).mono ?_); rintro e w1 ⟨rfl, hb1⟩; have hrw := hst.out w1 hb1; have c7 := (cell_blockT hrw.1 7).trans rfl; have c8 := (cell_blockT hrw.1 8).trans rfl; replace hrw := Hid.intro hrw)
      all_goals first | omega | skip
      go_ret
      refine ⟨?_, hrw.out.2⟩
      first | rfl | (by_cases h : c = 0 <;> simp [h])
    · have hl' : ¬ ((ln : Int) = 0) := by omega
      go_enter Tryz.func26, Tryz.ntmps26
      go_wp2_with (go_at_call 47; (with_reducible refine (hh.out).mono ?_); rintro e w1 ⟨rfl, hb1⟩; have hrw := hst.out w1 hb1; have c7 := (cell_blockT hrw.1 7).trans rfl; have c8 := (cell_blockT hrw.1 8).trans rfl; replace hrw := Hid.intro hrw)
      all_goals first | omega | skip
      go_ret
      refine ⟨?_, hrw.out.2⟩
      first | rfl | simp [hl]
  · go_enter Tryz.func26, Tryz.ntmps26
    go_wp2_with (first | (go_at_call 47; (with_reducible refine (hh.out).mono ?_); rintro e w1 ⟨rfl, hb1⟩; have hrw := hst.out w1 hb1; have c7 := (cell_blockT hrw.1 7).trans rfl; have c8 := (cell_blockT hrw.1 8).trans rfl; replace hrw := Hid.intro hrw) | (go_at_call 50; (with_reducible refine (hr.out _ hrw.out.2).mono ?_); rintro e w2 ⟨rfl, hb2⟩))
    all_goals first | omega | skip
    go_ret
    exact ⟨rfl, hrw.out.2.trans (hb2.mono hrw.out.2.size)⟩

theorem two_rows' (w : World) (A C : Array Value) (T1 T2 : TypeId) : ((w.alloc (.cells A T1)).alloc (.cells C T2)).heap[w.heap.size]? = some (.cells A T1 (0, 0)) ∧ ((w.alloc (.cells A T1)).alloc (.cells C T2)).heap[w.heap.size + 1]? = some (.cells C T2 (0, 0)) := by
  have hs : (w.alloc (.cells A T1)).heap.size = w.heap.size + 1 := by simp
  refine ⟨?_, ?_⟩
  · rw [Below.heap_alloc _ _ _ (by omega)]
    exact heap_alloc_new w _
  · rw [← hs]
    exact heap_alloc_new _ _

/-- an instruction, by kind -/
def instB (k op a b m f : Int) : Bool :=
  if k = 2 then decide (f = 0) && !(decide (m ≠ 0) && shE (shapeN op)) && decide (checkN op a b m (if spansB (shapeN op) then 1 else 0) = 0)
  else decide (op = 0 ∧ a = 0 ∧ b = 0 ∧ m = 0 ∧ f = 0)

set_option maxHeartbeats 1000000 in
theorem rightInst_any (k : Int) (s : ByteArray) (op a b m f : Int) (va : Option Addr) (ln vc : Nat) (c n : Int) (w : World) (hT : Tab w) (hm : -2147483648 ≤ m ∧ m ≤ 2147483647) :
    Calls Tryz.prog 25 #[itV k s op a b m f va ln vc c n] w fun e w' => e = .returned (.bool (instB k op a b m f)) ∧ Below w.heap.size w w' := by
  have hb0 : Below w.heap.size w ((w.alloc (.cells (itA k s op a b m f va ln vc c n) 33)).alloc (.cells #[.int .i64 op, .int .i64 a, .int .i64 b, .int .i32 m, .int .i64 f] 27)) := (below_alloc w _).alloc (by simp) _
  have hs0 : ((w.alloc (.cells (itA k s op a b m f va ln vc c n) 33)).alloc (.cells #[.int .i64 op, .int .i64 a, .int .i64 b, .int .i32 m, .int .i64 f] 27)).heap.size = w.heap.size + 2 := by simp
  by_cases hk : k = 2
  · subst hk
    have hT0 : Tab ((w.alloc (.cells (itA 2 s op a b m f va ln vc c n) 33)).alloc (.cells #[.int .i64 op, .int .i64 a, .int .i64 b, .int .i32 m, .int .i64 f] 27)) := (hT.alloc _).alloc _
    have h47 := hasExpression_any 2 s op a b m f va ln vc c n _ hT0
    rw [show hasEB 2 op = shE (shapeN op) from rfl] at h47
    have h48 := fun w1 h1 => spansOp_any op w1 h1
    have hF : instB 2 op a b m f = (decide (f = 0) && !(decide (m ≠ 0) && shE (shapeN op)) && decide (checkN op a b m (if spansB (shapeN op) then 1 else 0) = 0)) := rfl
    rw [hF]
    have hchk : Hid (∀ (fm : Int) w1, Tab w1 → Calls Tryz.prog 49 #[.agg #[.int .i64 op, .int .i64 a, .int .i64 b, .int .i32 m, .int .i64 fm]] w1 fun e w' => e = .returned (.int .i64 (checkN op a b m fm)) ∧ Below w1.heap.size w1 w') := fun fm w1 h1 => check_any op a b m fm w1 h1 hm
    clear hF
    generalize shE (shapeN op) = se at h47 ⊢
    generalize spansB (shapeN op) = sp at h48 ⊢
    replace h47 := Hid.intro h47
    replace h48 := Hid.intro h48
    have htr := (two_rows' w (itA 2 s op a b m f va ln vc c n) #[.int .i64 op, .int .i64 a, .int .i64 b, .int .i32 m, .int .i64 f] 33 27)
    have hkeep : Hid (∀ w1, Below ((w.alloc (.cells (itA 2 s op a b m f va ln vc c n) 33)).alloc (.cells #[.int .i64 op, .int .i64 a, .int .i64 b, .int .i32 m, .int .i64 f] 27)).heap.size ((w.alloc (.cells (itA 2 s op a b m f va ln vc c n) 33)).alloc (.cells #[.int .i64 op, .int .i64 a, .int .i64 b, .int .i32 m, .int .i64 f] 27)) w1 → w1.heap[w.heap.size + 1]? = some (.cells #[.int .i64 op, .int .i64 a, .int .i64 b, .int .i32 m, .int .i64 f] 27 (0, 0)) ∧ Below w.heap.size w w1 ∧ Tab w1) := fun w1 h1 => ⟨by rw [h1.block _ (by omega)]; exact htr.2, hb0.trans (h1.mono (by omega)), hT0.below h1 hT0.size⟩
    replace hT0 := Hid.intro hT0
    have hsz2 := hT.size
    clear htr hm hT
    by_cases hf : f = 0
    · subst hf
      have hgo : ∀ (q : Bool), (decide ((0 : Int) = 0) && q && decide (checkN op a b m (if sp then 1 else 0) = 0)) = (q && decide (checkN op a b m (if sp then 1 else 0) = 0)) := fun q => by simp
      rw [hgo]
      clear hgo
      by_cases hmz : m = 0
      · subst hmz
        rw [show (!(decide ((0 : Int) ≠ 0) && se)) = true by simp, Bool.true_and]
        cases sp
        · simp only [Bool.false_eq_true, if_false]
          go_enter Tryz.func25, Tryz.ntmps25
          go_wp2_with (first | (go_at_call 48; (with_reducible refine (h48.out _ hT0.out).mono ?_); rintro e w2 ⟨rfl, hb2⟩; have hk2 := hkeep.out w2 hb2; have e0 := (cell_blockT hk2.1 0).trans rfl; have e1 := (cell_blockT hk2.1 1).trans rfl; have e2 := (cell_blockT hk2.1 2).trans rfl; have e3 := (cell_blockT hk2.1 3).trans rfl; have e4 := (cell_blockT hk2.1 4).trans rfl; have ef := frozen_of_row w2 (w.heap.size + 1) 4 _ 27 hk2.1; have hput := row_set hk2.1 4 (.int .i64 1); have hT3 := Hid.intro (hk2.2.2.grown hput.2 (by omega)); replace hput := Hid.intro hput; replace hk2 := Hid.intro hk2) | (go_at_call 49; (with_reducible refine (hchk.out 0 _ hk2.out.2.2).mono ?_); rintro e w4 ⟨rfl, hb4⟩))
          all_goals first | omega | skip
          go_ret
          refine ⟨?_, hk2.out.2.1.trans (hb4.mono hk2.out.2.1.size)⟩
          first | rfl | (by_cases hz : checkN op a b 0 0 = 0 <;> simp [hz])
        · simp only [if_true]
          go_enter Tryz.func25, Tryz.ntmps25
          go_wp2_with (first | (go_at_call 48; (with_reducible refine (h48.out _ hT0.out).mono ?_); rintro e w2 ⟨rfl, hb2⟩; have hk2 := hkeep.out w2 hb2; have e0 := (cell_blockT hk2.1 0).trans rfl; have e1 := (cell_blockT hk2.1 1).trans rfl; have e2 := (cell_blockT hk2.1 2).trans rfl; have e3 := (cell_blockT hk2.1 3).trans rfl; have e4 := (cell_blockT hk2.1 4).trans rfl; have ef := frozen_of_row w2 (w.heap.size + 1) 4 _ 27 hk2.1; have hput := row_set hk2.1 4 (.int .i64 1); have hT3 := Hid.intro (hk2.2.2.grown hput.2 (by omega)); replace hput := Hid.intro hput; replace hk2 := Hid.intro hk2) | (go_at_call 49; (with_reducible refine (hchk.out 1 _ hT3.out).mono ?_); rintro e w4 ⟨rfl, hb4⟩))
          all_goals first | omega | skip
          go_ret
          refine ⟨?_, (hk2.out.2.1.trans (below_of_grown hput.out.2 (by omega) hk2.out.2.1.size)).trans (hb4.mono (by have := hk2.out.2.1.size; have := hput.out.2.size; omega))⟩
          first | rfl | (by_cases hz : checkN op a b 0 1 = 0 <;> simp [hz])
      · have hm' : (m == 0) = false := by simp [hmz]
        rw [show decide (m ≠ 0) = true by simp [hmz], Bool.true_and]
        cases se
        · rw [Bool.not_false, Bool.true_and]
          cases sp
          · simp only [Bool.false_eq_true, if_false]
            go_enter Tryz.func25, Tryz.ntmps25
            go_wp2_with (first | (go_at_call 47; (with_reducible refine (h47.out).mono ?_); rintro e w1 ⟨rfl, hb1⟩; have hk1 := Hid.intro (hkeep.out w1 hb1); have d0 := (cell_blockT hk1.out.1 0).trans rfl) | (go_at_call 48; (with_reducible refine (h48.out _ hk1.out.2.2).mono ?_); rintro e w2 ⟨rfl, hb2⟩; have hk2 := hkeep.out w2 (hb1.trans (hb2.mono hb1.size)); have e0 := (cell_blockT hk2.1 0).trans rfl; have e1 := (cell_blockT hk2.1 1).trans rfl; have e2 := (cell_blockT hk2.1 2).trans rfl; have e3 := (cell_blockT hk2.1 3).trans rfl; have e4 := (cell_blockT hk2.1 4).trans rfl; have ef := frozen_of_row w2 (w.heap.size + 1) 4 _ 27 hk2.1; have hput := row_set hk2.1 4 (.int .i64 1); have hT3 := Hid.intro (hk2.2.2.grown hput.2 (by omega)); replace hput := Hid.intro hput; replace hk2 := Hid.intro hk2) | (go_at_call 49; (with_reducible refine (hchk.out 0 _ hk2.out.2.2).mono ?_); rintro e w4 ⟨rfl, hb4⟩))
            all_goals first | omega | skip
            go_ret
            refine ⟨?_, hk2.out.2.1.trans (hb4.mono hk2.out.2.1.size)⟩
            first | rfl | (by_cases hz : checkN op a b m 0 = 0 <;> simp [hz])
          · simp only [if_true]
            go_enter Tryz.func25, Tryz.ntmps25
            go_wp2_with (first | (go_at_call 47; (with_reducible refine (h47.out).mono ?_); rintro e w1 ⟨rfl, hb1⟩; have hk1 := Hid.intro (hkeep.out w1 hb1); have d0 := (cell_blockT hk1.out.1 0).trans rfl) | (go_at_call 48; (with_reducible refine (h48.out _ hk1.out.2.2).mono ?_); rintro e w2 ⟨rfl, hb2⟩; have hk2 := hkeep.out w2 (hb1.trans (hb2.mono hb1.size)); have e0 := (cell_blockT hk2.1 0).trans rfl; have e1 := (cell_blockT hk2.1 1).trans rfl; have e2 := (cell_blockT hk2.1 2).trans rfl; have e3 := (cell_blockT hk2.1 3).trans rfl; have e4 := (cell_blockT hk2.1 4).trans rfl; have ef := frozen_of_row w2 (w.heap.size + 1) 4 _ 27 hk2.1; have hput := row_set hk2.1 4 (.int .i64 1); have hT3 := Hid.intro (hk2.2.2.grown hput.2 (by omega)); replace hput := Hid.intro hput; replace hk2 := Hid.intro hk2) | (go_at_call 49; (with_reducible refine (hchk.out 1 _ hT3.out).mono ?_); rintro e w4 ⟨rfl, hb4⟩))
            all_goals first | omega | skip
            go_ret
            refine ⟨?_, (hk2.out.2.1.trans (below_of_grown hput.out.2 (by omega) hk2.out.2.1.size)).trans (hb4.mono (by have := hk2.out.2.1.size; have := hput.out.2.size; omega))⟩
            first | rfl | (by_cases hz : checkN op a b m 1 = 0 <;> simp [hz])
        · rw [Bool.not_true, Bool.false_and]
          go_enter Tryz.func25, Tryz.ntmps25
          go_wp2_with (first | (go_at_call 47; (with_reducible refine (h47.out).mono ?_); rintro e w1 ⟨rfl, hb1⟩; have hk1 := Hid.intro (hkeep.out w1 hb1); have d0 := (cell_blockT hk1.out.1 0).trans rfl))
          all_goals first | omega | skip
          go_ret
          exact ⟨rfl, hk1.out.2.1⟩
    · have hf' : (f == 0) = false := by simp [hf]
      rw [show decide (f = 0) = false by simp [hf], Bool.false_and, Bool.false_and]
      go_enter Tryz.func25, Tryz.ntmps25
      go_wp2
      all_goals first | omega | skip
      go_ret
      exact ⟨rfl, hb0⟩
  · have hk' : (k == 2) = false := by simp [hk]
    have hF : instB k op a b m f = decide (op = 0 ∧ a = 0 ∧ b = 0 ∧ m = 0 ∧ f = 0) := by simp [instB, hk]
    rw [hF]
    clear hs0
    go_enter Tryz.func25, Tryz.ntmps25
    go_wp2
    all_goals first | omega | skip
    all_goals
      go_ret
      exact ⟨by simp_all, (below_alloc w _).alloc (by simp) _⟩

end Go.Proofs.YtlkmegchaeokgaaGreatDoor
/- The document's Right: its parts. -/
namespace Go.Proofs.YtlkmegchaeokgaaGreatDoor
open Go.ChangeShapes Go.WideShapes Go.ChangeAt Go.RowKit
set_option linter.unusedVariables false
set_option maxRecDepth 100000

theorem hasE_any (op : Int) (w : World) : Calls Tryz.prog 36 #[.int .i64 op] w fun e w' => e = .returned (.bool (shE (shapeN op))) ∧ Below w.heap.size w w' := by
  have hs := Hid.intro (shape_any op w)
  generalize shapeN op = S at hs ⊢
  by_cases h10 : S = 10
  · subst h10
    go_enter Tryz.func36, Tryz.ntmps36
    go_wp2_with (go_at_call 60; (with_reducible refine (hs.out).mono ?_); rintro e w1 ⟨rfl, hb1⟩)
    all_goals first | omega | skip
    go_ret
    exact ⟨rfl, hb1⟩
  have g10 : (S == 10) = false := by simp [h10]
  by_cases h11 : S = 11
  · subst h11
    go_enter Tryz.func36, Tryz.ntmps36
    go_wp2_with (go_at_call 60; (with_reducible refine (hs.out).mono ?_); rintro e w1 ⟨rfl, hb1⟩)
    all_goals first | omega | skip
    go_ret
    exact ⟨rfl, hb1⟩
  have g11 : (S == 11) = false := by simp [h11]
  by_cases h12 : S = 12
  · subst h12
    go_enter Tryz.func36, Tryz.ntmps36
    go_wp2_with (go_at_call 60; (with_reducible refine (hs.out).mono ?_); rintro e w1 ⟨rfl, hb1⟩)
    all_goals first | omega | skip
    go_ret
    exact ⟨rfl, hb1⟩
  have g12 : (S == 12) = false := by simp [h12]
  have hF : shE S = (S == 13) := by simp [shE, h10, h11, h12]
  rw [hF]
  go_enter Tryz.func36, Tryz.ntmps36
  go_wp2_with (go_at_call 60; (with_reducible refine (hs.out).mono ?_); rintro e w1 ⟨rfl, hb1⟩)
  all_goals first | omega | skip
  go_ret
  exact ⟨rfl, hb1⟩

def pw (j : Nat) : Int := 2 ^ j

theorem power_any (n : Int) (w : World) : Calls Tryz.prog 38 #[.int .i64 n] w fun e w' => e = .returned (.bool (numOfB 3 n)) ∧ w' = w := by
  go_enter Tryz.func38, Tryz.ntmps38
  go_wp2
  go_loopw [3] (fun v3 wr => ∃ j : Nat, j ≤ 9 ∧ v3 = .int .i64 (pw j) ∧ wr = w ∧ Hid (∀ i, i < j → n ≠ pw i)) (fun v3 wr => (1000 - intOf v3).toNat)
  case atStart => exact ⟨0, by omega, rfl, rfl, fun i hi => by omega⟩
  case round =>
    obtain ⟨j, hj, rfl, rfl, hne⟩ := hrel
    have : j = 0 ∨ j = 1 ∨ j = 2 ∨ j = 3 ∨ j = 4 ∨ j = 5 ∨ j = 6 ∨ j = 7 ∨ j = 8 ∨ j = 9 := by omega
    by_cases h9 : j = 9
    · subst h9
      have hF : numOfB 3 n = false := by
        have q := hne.out
        have q0 := q 0 (by omega)
        have q1 := q 1 (by omega)
        have q2 := q 2 (by omega)
        have q3 := q 3 (by omega)
        have q4 := q 4 (by omega)
        have q5 := q 5 (by omega)
        have q6 := q 6 (by omega)
        have q7 := q 7 (by omega)
        have q8 := q 8 (by omega)
        simp [pw] at q0 q1 q2 q3 q4 q5 q6 q7 q8
        simp [numOfB]
        omega
      rw [show pw 9 = 512 from rfl]
      go_wp2
      all_goals first | omega | skip
      go_ret
      exact ⟨by first | rfl | (rw [hF]; rfl), rfl⟩
    · obtain ⟨P, hP, hP1, hP2, hP3⟩ : ∃ P : Int, pw j = P ∧ 1 ≤ P ∧ P ≤ 256 ∧ pw (j + 1) = 2 * P := by
        rcases this with rfl | rfl | rfl | rfl | rfl | rfl | rfl | rfl | rfl | rfl
        all_goals first | exact absurd rfl h9 | exact ⟨_, rfl, by simp [pw], by simp [pw], by simp [pw]⟩
      rw [hP]
      by_cases hn : n = P
      · have hF : numOfB 3 n = true := by
          rcases this with rfl | rfl | rfl | rfl | rfl | rfl | rfl | rfl | rfl | rfl
          all_goals (simp [pw] at hP; simp [numOfB]; omega)
        replace hF := Hid.intro hF
        clear hP hP3 this
        go_wp2
        all_goals first | omega | skip
        go_ret
        exact ⟨by first | rfl | (rw [hF.out]; rfl), rfl⟩
      · have hn' : (n == P) = false := by simp [hn]
        go_wp2
        all_goals first | omega | skip
        go_roundw
        case rel => exact ⟨j + 1, by omega, by rw [hP3], by first | rfl | trivial, Hid.intro (fun i hi => by rcases Nat.lt_or_ge i j with h | h; exact hne.out i h; rw [show i = j by omega, hP]; exact hn)⟩
        case measure => simp [intOf]; omega

def isZ5 (op a b m f : Int) : Bool := decide (op = 0 ∧ a = 0 ∧ b = 0 ∧ m = 0 ∧ f = 0)

/-- are these fields zero? -/
def bareB (b1 b2 b3 b4 : Bool) (s : ByteArray) (op a b m f : Int) (ln : Nat) (c n : Int) : Bool :=
  (!b1 || decide (s.toList = [])) && ((!b2 || isZ5 op a b m f) && ((!b3 || (decide (ln = 0) && decide (c = 0))) && (!b4 || decide (n = 0))))

set_option maxHeartbeats 1000000 in
theorem bareFTTT (k : Int) (s : ByteArray) (op a b m f : Int) (va : Option Addr) (ln vc : Nat) (c n : Int) (w : World) :
    Calls Tryz.prog 33 #[itV k s op a b m f va ln vc c n, .bool false, .bool true, .bool true, .bool true] w fun e w' => e = .returned (.bool (bareB false true true true s op a b m f ln c n)) ∧ Below w.heap.size w w' := by
  by_cases hi : op = 0 ∧ a = 0 ∧ b = 0 ∧ m = 0 ∧ f = 0
  case neg =>
    have hF : bareB false true true true s op a b m f ln c n = false := by simp only [bareB, isZ5]; rw [show decide (op = 0 ∧ a = 0 ∧ b = 0 ∧ m = 0 ∧ f = 0) = false by simp only [decide_eq_false_iff_not]; exact hi]; simp
    rw [hF]
    go_enter Tryz.func33, Tryz.ntmps33
    go_wp2
    all_goals first | omega | skip
    all_goals
      go_ret
      exact ⟨by first | rfl | simp_all, below_alloc w _⟩
  obtain ⟨rfl, rfl, rfl, rfl, rfl⟩ := hi
  by_cases hl : ln = 0
  case neg =>
    have hF : bareB false true true true s 0 0 0 0 0 ln c n = false := by simp [bareB, hl]
    rw [hF]
    have hl' : ¬ ((ln : Int) = 0) := by omega
    go_enter Tryz.func33, Tryz.ntmps33
    go_wp2
    all_goals first | omega | skip
    all_goals
      go_ret
      exact ⟨by first | rfl | simp_all, below_alloc w _⟩
  subst hl
  by_cases hc : c = 0
  case neg =>
    have hF : bareB false true true true s 0 0 0 0 0 0 c n = false := by simp [bareB, hc]
    rw [hF]
    have hc' : (c == 0) = false := by simp [hc]
    go_enter Tryz.func33, Tryz.ntmps33
    go_wp2
    all_goals first | omega | skip
    all_goals
      go_ret
      exact ⟨by first | rfl | simp_all, below_alloc w _⟩
  subst hc
  have hF : bareB false true true true s 0 0 0 0 0 0 0 n = decide (n = 0) := by simp [bareB, isZ5]
  rw [hF]
  by_cases hn : n = 0
  · subst hn
    go_enter Tryz.func33, Tryz.ntmps33
    go_wp2
    all_goals first | omega | skip
    all_goals
      go_ret
      exact ⟨by first | rfl | simp_all, below_alloc w _⟩
  · have hn' : (n == 0) = false := by simp [hn]
    rw [show decide (n = 0) = false by simp [hn]]
    go_enter Tryz.func33, Tryz.ntmps33
    go_wp2
    all_goals first | omega | skip
    all_goals
      go_ret
      exact ⟨by first | rfl | simp_all, below_alloc w _⟩

set_option maxHeartbeats 1000000 in
theorem bareTFFT (k : Int) (s : ByteArray) (op a b m f : Int) (va : Option Addr) (ln vc : Nat) (c n : Int) (w : World) :
    Calls Tryz.prog 33 #[itV k s op a b m f va ln vc c n, .bool true, .bool false, .bool false, .bool true] w fun e w' => e = .returned (.bool (bareB true false false true s op a b m f ln c n)) ∧ Below w.heap.size w w' := by
  by_cases hs : s.toList = []
  case neg =>
    have hF : bareB true false false true s op a b m f ln c n = false := by simp [bareB, hs]
    rw [hF]
    have hs' : (s.toList == []) = false := beq_false_of_ne hs
    go_enter Tryz.func33, Tryz.ntmps33
    go_wp2
    all_goals first | omega | skip
    all_goals
      go_ret
      exact ⟨by rfl, below_alloc w _⟩
  have hs' : (s.toList == []) = true := by rw [hs]; rfl
  have hF : bareB true false false true s op a b m f ln c n = decide (n = 0) := by simp [bareB, isZ5, hs]
  rw [hF]
  by_cases hn : n = 0
  · subst hn
    go_enter Tryz.func33, Tryz.ntmps33
    go_wp2
    all_goals first | omega | skip
    all_goals
      go_ret
      exact ⟨by first | rfl | simp_all, below_alloc w _⟩
  · have hn' : (n == 0) = false := by simp [hn]
    rw [show decide (n = 0) = false by simp [hn]]
    go_enter Tryz.func33, Tryz.ntmps33
    go_wp2
    all_goals first | omega | skip
    all_goals
      go_ret
      exact ⟨by first | rfl | simp_all, below_alloc w _⟩

set_option maxHeartbeats 1000000 in
theorem bareFFTF (k : Int) (s : ByteArray) (op a b m f : Int) (va : Option Addr) (ln vc : Nat) (c n : Int) (w : World) :
    Calls Tryz.prog 33 #[itV k s op a b m f va ln vc c n, .bool false, .bool false, .bool true, .bool false] w fun e w' => e = .returned (.bool (bareB false false true false s op a b m f ln c n)) ∧ Below w.heap.size w w' := by
  by_cases hl : ln = 0
  case neg =>
    have hF : bareB false false true false s op a b m f ln c n = false := by simp [bareB, hl]
    rw [hF]
    have hl' : ¬ ((ln : Int) = 0) := by omega
    go_enter Tryz.func33, Tryz.ntmps33
    go_wp2
    all_goals first | omega | skip
    all_goals
      go_ret
      exact ⟨by first | rfl | simp_all, below_alloc w _⟩
  subst hl
  by_cases hc : c = 0
  case neg =>
    have hF : bareB false false true false s op a b m f 0 c n = false := by simp [bareB, hc]
    rw [hF]
    have hc' : (c == 0) = false := by simp [hc]
    go_enter Tryz.func33, Tryz.ntmps33
    go_wp2
    all_goals first | omega | skip
    all_goals
      go_ret
      exact ⟨by first | rfl | simp_all, below_alloc w _⟩
  subst hc
  have hF : bareB false false true false s op a b m f 0 0 n = true := by simp [bareB, isZ5]
  rw [hF]
  go_enter Tryz.func33, Tryz.ntmps33
  go_wp2
  all_goals first | omega | skip
  all_goals
    go_ret
    exact ⟨by first | rfl | simp_all, below_alloc w _⟩

set_option maxHeartbeats 1000000 in
theorem bareTTTF (k : Int) (s : ByteArray) (op a b m f : Int) (va : Option Addr) (ln vc : Nat) (c n : Int) (w : World) :
    Calls Tryz.prog 33 #[itV k s op a b m f va ln vc c n, .bool true, .bool true, .bool true, .bool false] w fun e w' => e = .returned (.bool (bareB true true true false s op a b m f ln c n)) ∧ Below w.heap.size w w' := by
  by_cases hs : s.toList = []
  case neg =>
    have hF : bareB true true true false s op a b m f ln c n = false := by simp [bareB, hs]
    rw [hF]
    have hs' : (s.toList == []) = false := beq_false_of_ne hs
    go_enter Tryz.func33, Tryz.ntmps33
    go_wp2
    all_goals first | omega | skip
    all_goals
      go_ret
      exact ⟨by rfl, below_alloc w _⟩
  have hs' : (s.toList == []) = true := by rw [hs]; rfl
  by_cases hi : op = 0 ∧ a = 0 ∧ b = 0 ∧ m = 0 ∧ f = 0
  case neg =>
    have hF : bareB true true true false s op a b m f ln c n = false := by simp only [bareB, isZ5]; rw [show decide (op = 0 ∧ a = 0 ∧ b = 0 ∧ m = 0 ∧ f = 0) = false by simp only [decide_eq_false_iff_not]; exact hi]; simp
    rw [hF]
    go_enter Tryz.func33, Tryz.ntmps33
    go_wp2
    all_goals first | omega | skip
    all_goals
      go_ret
      exact ⟨by first | rfl | simp_all, below_alloc w _⟩
  obtain ⟨rfl, rfl, rfl, rfl, rfl⟩ := hi
  by_cases hl : ln = 0
  case neg =>
    have hF : bareB true true true false s 0 0 0 0 0 ln c n = false := by simp [bareB, hl]
    rw [hF]
    have hl' : ¬ ((ln : Int) = 0) := by omega
    go_enter Tryz.func33, Tryz.ntmps33
    go_wp2
    all_goals first | omega | skip
    all_goals
      go_ret
      exact ⟨by first | rfl | simp_all, below_alloc w _⟩
  subst hl
  by_cases hc : c = 0
  case neg =>
    have hF : bareB true true true false s 0 0 0 0 0 0 c n = false := by simp [bareB, hc]
    rw [hF]
    have hc' : (c == 0) = false := by simp [hc]
    go_enter Tryz.func33, Tryz.ntmps33
    go_wp2
    all_goals first | omega | skip
    all_goals
      go_ret
      exact ⟨by first | rfl | simp_all, below_alloc w _⟩
  subst hc
  have hF : bareB true true true false s 0 0 0 0 0 0 0 n = true := by simp [bareB, isZ5, hs]
  rw [hF]
  go_enter Tryz.func33, Tryz.ntmps33
  go_wp2
  all_goals first | omega | skip
  all_goals
    go_ret
    exact ⟨by first | rfl | simp_all, below_alloc w _⟩

set_option maxHeartbeats 1000000 in
theorem bareTTTT (k : Int) (s : ByteArray) (op a b m f : Int) (va : Option Addr) (ln vc : Nat) (c n : Int) (w : World) :
    Calls Tryz.prog 33 #[itV k s op a b m f va ln vc c n, .bool true, .bool true, .bool true, .bool true] w fun e w' => e = .returned (.bool (bareB true true true true s op a b m f ln c n)) ∧ Below w.heap.size w w' := by
  by_cases hs : s.toList = []
  case neg =>
    have hF : bareB true true true true s op a b m f ln c n = false := by simp [bareB, hs]
    rw [hF]
    have hs' : (s.toList == []) = false := beq_false_of_ne hs
    go_enter Tryz.func33, Tryz.ntmps33
    go_wp2
    all_goals first | omega | skip
    all_goals
      go_ret
      exact ⟨by rfl, below_alloc w _⟩
  have hs' : (s.toList == []) = true := by rw [hs]; rfl
  by_cases hi : op = 0 ∧ a = 0 ∧ b = 0 ∧ m = 0 ∧ f = 0
  case neg =>
    have hF : bareB true true true true s op a b m f ln c n = false := by simp only [bareB, isZ5]; rw [show decide (op = 0 ∧ a = 0 ∧ b = 0 ∧ m = 0 ∧ f = 0) = false by simp only [decide_eq_false_iff_not]; exact hi]; simp
    rw [hF]
    go_enter Tryz.func33, Tryz.ntmps33
    go_wp2
    all_goals first | omega | skip
    all_goals
      go_ret
      exact ⟨by first | rfl | simp_all, below_alloc w _⟩
  obtain ⟨rfl, rfl, rfl, rfl, rfl⟩ := hi
  by_cases hl : ln = 0
  case neg =>
    have hF : bareB true true true true s 0 0 0 0 0 ln c n = false := by simp [bareB, hl]
    rw [hF]
    have hl' : ¬ ((ln : Int) = 0) := by omega
    go_enter Tryz.func33, Tryz.ntmps33
    go_wp2
    all_goals first | omega | skip
    all_goals
      go_ret
      exact ⟨by first | rfl | simp_all, below_alloc w _⟩
  subst hl
  by_cases hc : c = 0
  case neg =>
    have hF : bareB true true true true s 0 0 0 0 0 0 c n = false := by simp [bareB, hc]
    rw [hF]
    have hc' : (c == 0) = false := by simp [hc]
    go_enter Tryz.func33, Tryz.ntmps33
    go_wp2
    all_goals first | omega | skip
    all_goals
      go_ret
      exact ⟨by first | rfl | simp_all, below_alloc w _⟩
  subst hc
  have hF : bareB true true true true s 0 0 0 0 0 0 0 n = decide (n = 0) := by simp [bareB, isZ5, hs]
  rw [hF]
  by_cases hn : n = 0
  · subst hn
    go_enter Tryz.func33, Tryz.ntmps33
    go_wp2
    all_goals first | omega | skip
    all_goals
      go_ret
      exact ⟨by first | rfl | simp_all, below_alloc w _⟩
  · have hn' : (n == 0) = false := by simp [hn]
    rw [show decide (n = 0) = false by simp [hn]]
    go_enter Tryz.func33, Tryz.ntmps33
    go_wp2
    all_goals first | omega | skip
    all_goals
      go_ret
      exact ⟨by first | rfl | simp_all, below_alloc w _⟩

set_option maxHeartbeats 1000000 in
theorem bareTTFT (k : Int) (s : ByteArray) (op a b m f : Int) (va : Option Addr) (ln vc : Nat) (c n : Int) (w : World) :
    Calls Tryz.prog 33 #[itV k s op a b m f va ln vc c n, .bool true, .bool true, .bool false, .bool true] w fun e w' => e = .returned (.bool (bareB true true false true s op a b m f ln c n)) ∧ Below w.heap.size w w' := by
  by_cases hs : s.toList = []
  case neg =>
    have hF : bareB true true false true s op a b m f ln c n = false := by simp [bareB, hs]
    rw [hF]
    have hs' : (s.toList == []) = false := beq_false_of_ne hs
    go_enter Tryz.func33, Tryz.ntmps33
    go_wp2
    all_goals first | omega | skip
    all_goals
      go_ret
      exact ⟨by rfl, below_alloc w _⟩
  have hs' : (s.toList == []) = true := by rw [hs]; rfl
  by_cases hi : op = 0 ∧ a = 0 ∧ b = 0 ∧ m = 0 ∧ f = 0
  case neg =>
    have hF : bareB true true false true s op a b m f ln c n = false := by simp only [bareB, isZ5]; rw [show decide (op = 0 ∧ a = 0 ∧ b = 0 ∧ m = 0 ∧ f = 0) = false by simp only [decide_eq_false_iff_not]; exact hi]; simp
    rw [hF]
    go_enter Tryz.func33, Tryz.ntmps33
    go_wp2
    all_goals first | omega | skip
    all_goals
      go_ret
      exact ⟨by first | rfl | simp_all, below_alloc w _⟩
  obtain ⟨rfl, rfl, rfl, rfl, rfl⟩ := hi
  have hF : bareB true true false true s 0 0 0 0 0 ln c n = decide (n = 0) := by simp [bareB, isZ5, hs]
  rw [hF]
  by_cases hn : n = 0
  · subst hn
    go_enter Tryz.func33, Tryz.ntmps33
    go_wp2
    all_goals first | omega | skip
    all_goals
      go_ret
      exact ⟨by first | rfl | simp_all, below_alloc w _⟩
  · have hn' : (n == 0) = false := by simp [hn]
    rw [show decide (n = 0) = false by simp [hn]]
    go_enter Tryz.func33, Tryz.ntmps33
    go_wp2
    all_goals first | omega | skip
    all_goals
      go_ret
      exact ⟨by first | rfl | simp_all, below_alloc w _⟩

end Go.Proofs.YtlkmegchaeokgaaGreatDoor
/- item's Right. -/
namespace Go.Proofs.YtlkmegchaeokgaaGreatDoor
open Go.ChangeShapes Go.WideShapes Go.ChangeAt Go.RowKit
set_option linter.unusedVariables false
set_option maxRecDepth 100000

def rightN (sec : Int) (ok : Bool) : Int := if sec ≠ 0 ∧ sec ≠ 1 then 1 else if ok then 0 else 31

/-- is an item right there? -/
def okB (k : Int) (s : ByteArray) (op a b m f : Int) (ts : List Tm) (c n sec : Int) : Bool := standsB k sec && (nameB k s && (instB k op a b m f && (exprB (hasEB k op) ts c && numOfB k n)))

/-- the item's box, while Right runs -/
structure RI (w : World) (A : Array Value) (wr : World) : Prop where
  bel : Below w.heap.size w wr
  row : wr.heap[w.heap.size]? = some (.cells A 33 (0, 0))
  tab : Tab wr

theorem RI.below {w : World} {A : Array Value} {wr w' : World} (h : RI w A wr) (hb : Below wr.heap.size wr w') : RI w A w' :=
  ⟨h.bel.trans (hb.mono h.bel.size), by rw [hb.block _ (blk_lt h.row)]; exact h.row, h.tab.below hb h.tab.size⟩

theorem rowIt {w : World} {g : Nat} {v0 v1 v2 v3 v4 v5 v6 v7 v8 v9 : Value} (h : w.heap[g]? = some (.cells #[v0, v1, v2, v3, v4, v5, v6, v7, v8, v9] 33 (0, 0))) : w.cell? ⟨g, 0, none⟩ = some v0 ∧ w.cell? ⟨g, 1, none⟩ = some v1 ∧ w.cell? ⟨g, 2, none⟩ = some v2 ∧ w.cell? ⟨g, 3, none⟩ = some v3 ∧ w.cell? ⟨g, 4, none⟩ = some v4 ∧ w.cell? ⟨g, 5, none⟩ = some v5 ∧ w.cell? ⟨g, 6, none⟩ = some v6 ∧ w.cell? ⟨g, 7, none⟩ = some v7 ∧ w.cell? ⟨g, 8, none⟩ = some v8 ∧ w.cell? ⟨g, 9, none⟩ = some v9 :=
  ⟨(cell_blockT h 0).trans rfl, (cell_blockT h 1).trans rfl, (cell_blockT h 2).trans rfl, (cell_blockT h 3).trans rfl, (cell_blockT h 4).trans rfl, (cell_blockT h 5).trans rfl, (cell_blockT h 6).trans rfl, (cell_blockT h 7).trans rfl, (cell_blockT h 8).trans rfl, (cell_blockT h 9).trans rfl⟩

set_option maxHeartbeats 1000000 in
theorem itemRight_any (k : Int) (s : ByteArray) (hs : s.size ≤ 1100000) (op a b m f : Int) (hm : -2147483648 ≤ m ∧ m ≤ 2147483647) (va : Option Addr) (vc : Nat) (ts : List Tm) (c n sec : Int) (hn : -9223372036854775808 ≤ n ∧ n ≤ 9223372036854775807) (w : World) (hT : Tab w) (hL : TmLies w va ts) (hlen : ts.length ≤ 9000000) (hN : ∀ t ∈ ts, t.name.length ≤ 1100000) :
    Calls Tryz.prog 9 #[itV k s op a b m f va ts.length vc c n, .int .i64 sec] w fun e w' => e = .returned (.int .i64 (rightN sec (okB k s op a b m f ts c n sec))) ∧ Below w.heap.size w w' := by
  have h0 : RI w (itA k s op a b m f va ts.length vc c n) (w.alloc (.cells (itA k s op a b m f va ts.length vc c n) 33)) := ⟨below_alloc w _, heap_alloc_new w _, hT.alloc _⟩
  have h23 := fun w1 => stands_any k sec w1
  have h24 := fun w1 => rightName_any k s hs op a b m f va ts.length vc c n w1
  have h25 := fun w1 (h1 : RI w (itA k s op a b m f va ts.length vc c n) w1) => rightInst_any k s op a b m f va ts.length vc c n w1 h1.tab hm
  have h26 := fun w1 (h1 : RI w (itA k s op a b m f va ts.length vc c n) w1) => rightExpression_any k s op a b m f va vc ts c n w1 h1.tab (hL.below h1.bel (Nat.le_refl _)) hlen hN
  have h27 := fun w1 => isNumberOf_any k n w1 hn
  have hF : okB k s op a b m f ts c n sec = (standsB k sec && (nameB k s && (instB k op a b m f && (exprB (hasEB k op) ts c && numOfB k n)))) := rfl
  rw [hF]
  clear hF hT hL hN hs hm hn
  generalize standsB k sec = b1 at h23 ⊢
  generalize nameB k s = b2 at h24 ⊢
  generalize instB k op a b m f = b3 at h25 ⊢
  generalize exprB (hasEB k op) ts c = b4 at h26 ⊢
  generalize numOfB k n = b5 at h27 ⊢
  generalize ts.length = ln at h0 h24 h25 h26 hlen ⊢
  replace h0 := Hid.intro h0
  replace h23 := Hid.intro h23
  replace h24 := Hid.intro h24
  replace h25 := Hid.intro h25
  replace h26 := Hid.intro h26
  replace h27 := Hid.intro h27
  clear hlen
  by_cases hsec : sec = 0 ∨ sec = 1
  · rw [show ∀ ok, rightN sec ok = if ok then 0 else 31 from fun ok => by unfold rightN; rw [if_neg (by omega)]]
    have key : ∀ (c1 : Bool), ((if (c1 : Bool) = true then (0 : Int) else 31) = if c1 then 0 else 31) := fun _ => rfl
    clear key
    rcases hsec with rfl | rfl
    all_goals
      cases b1
      · go_enter Tryz.func9, Tryz.ntmps9
        go_wp2_with (first
          | (go_at_call 23; (with_reducible refine (h23.out _).mono ?_); rintro e w1 ⟨rfl, rfl⟩)
          | (go_at_call 24; (with_reducible refine (h24.out _).mono ?_); rintro e w2 ⟨rfl, hb2⟩; have h2 := Hid.intro (h0.out.below hb2); obtain ⟨q0, q1, q2, q3, q4, q5, q6, q7, q8, q9⟩ := rowIt h2.out.row)
          | (go_at_call 25; (with_reducible refine (h25.out _ h2.out).mono ?_); rintro e w3 ⟨rfl, hb3⟩; have h3 := Hid.intro (h2.out.below hb3); obtain ⟨p0, p1, p2, p3, p4, p5, p6, p7, p8, p9⟩ := rowIt h3.out.row)
          | (go_at_call 26; (with_reducible refine (h26.out _ h3.out).mono ?_); rintro e w4 ⟨rfl, hb4⟩; have h4 := Hid.intro (h3.out.below hb4); obtain ⟨r0, r1, r2, r3, r4, r5, r6, r7, r8, r9⟩ := rowIt h4.out.row)
          | (go_at_call 27; (with_reducible refine (h27.out _).mono ?_); rintro e w5 ⟨rfl, rfl⟩))
        all_goals first | omega | skip
        go_ret
        exact ⟨rfl, h0.out.bel⟩
      · cases b2
        · go_enter Tryz.func9, Tryz.ntmps9
          go_wp2_with (first
            | (go_at_call 23; (with_reducible refine (h23.out _).mono ?_); rintro e w1 ⟨rfl, rfl⟩)
            | (go_at_call 24; (with_reducible refine (h24.out _).mono ?_); rintro e w2 ⟨rfl, hb2⟩; have h2 := Hid.intro (h0.out.below hb2); obtain ⟨q0, q1, q2, q3, q4, q5, q6, q7, q8, q9⟩ := rowIt h2.out.row)
            | (go_at_call 25; (with_reducible refine (h25.out _ h2.out).mono ?_); rintro e w3 ⟨rfl, hb3⟩; have h3 := Hid.intro (h2.out.below hb3); obtain ⟨p0, p1, p2, p3, p4, p5, p6, p7, p8, p9⟩ := rowIt h3.out.row)
            | (go_at_call 26; (with_reducible refine (h26.out _ h3.out).mono ?_); rintro e w4 ⟨rfl, hb4⟩; have h4 := Hid.intro (h3.out.below hb4); obtain ⟨r0, r1, r2, r3, r4, r5, r6, r7, r8, r9⟩ := rowIt h4.out.row)
            | (go_at_call 27; (with_reducible refine (h27.out _).mono ?_); rintro e w5 ⟨rfl, rfl⟩))
          all_goals first | omega | skip
          go_ret
          exact ⟨rfl, h2.out.bel⟩
        · cases b3
          · go_enter Tryz.func9, Tryz.ntmps9
            go_wp2_with (first
              | (go_at_call 23; (with_reducible refine (h23.out _).mono ?_); rintro e w1 ⟨rfl, rfl⟩)
              | (go_at_call 24; (with_reducible refine (h24.out _).mono ?_); rintro e w2 ⟨rfl, hb2⟩; have h2 := Hid.intro (h0.out.below hb2); obtain ⟨q0, q1, q2, q3, q4, q5, q6, q7, q8, q9⟩ := rowIt h2.out.row)
              | (go_at_call 25; (with_reducible refine (h25.out _ h2.out).mono ?_); rintro e w3 ⟨rfl, hb3⟩; have h3 := Hid.intro (h2.out.below hb3); obtain ⟨p0, p1, p2, p3, p4, p5, p6, p7, p8, p9⟩ := rowIt h3.out.row)
              | (go_at_call 26; (with_reducible refine (h26.out _ h3.out).mono ?_); rintro e w4 ⟨rfl, hb4⟩; have h4 := Hid.intro (h3.out.below hb4); obtain ⟨r0, r1, r2, r3, r4, r5, r6, r7, r8, r9⟩ := rowIt h4.out.row)
              | (go_at_call 27; (with_reducible refine (h27.out _).mono ?_); rintro e w5 ⟨rfl, rfl⟩))
            all_goals first | omega | skip
            go_ret
            exact ⟨rfl, h3.out.bel⟩
          · cases b4
            · go_enter Tryz.func9, Tryz.ntmps9
              go_wp2_with (first
                | (go_at_call 23; (with_reducible refine (h23.out _).mono ?_); rintro e w1 ⟨rfl, rfl⟩)
                | (go_at_call 24; (with_reducible refine (h24.out _).mono ?_); rintro e w2 ⟨rfl, hb2⟩; have h2 := Hid.intro (h0.out.below hb2); obtain ⟨q0, q1, q2, q3, q4, q5, q6, q7, q8, q9⟩ := rowIt h2.out.row)
                | (go_at_call 25; (with_reducible refine (h25.out _ h2.out).mono ?_); rintro e w3 ⟨rfl, hb3⟩; have h3 := Hid.intro (h2.out.below hb3); obtain ⟨p0, p1, p2, p3, p4, p5, p6, p7, p8, p9⟩ := rowIt h3.out.row)
                | (go_at_call 26; (with_reducible refine (h26.out _ h3.out).mono ?_); rintro e w4 ⟨rfl, hb4⟩; have h4 := Hid.intro (h3.out.below hb4); obtain ⟨r0, r1, r2, r3, r4, r5, r6, r7, r8, r9⟩ := rowIt h4.out.row)
                | (go_at_call 27; (with_reducible refine (h27.out _).mono ?_); rintro e w5 ⟨rfl, rfl⟩))
              all_goals first | omega | skip
              go_ret
              exact ⟨rfl, h4.out.bel⟩
            · cases b5
              · go_enter Tryz.func9, Tryz.ntmps9
                go_wp2_with (first
                  | (go_at_call 23; (with_reducible refine (h23.out _).mono ?_); rintro e w1 ⟨rfl, rfl⟩)
                  | (go_at_call 24; (with_reducible refine (h24.out _).mono ?_); rintro e w2 ⟨rfl, hb2⟩; have h2 := Hid.intro (h0.out.below hb2); obtain ⟨q0, q1, q2, q3, q4, q5, q6, q7, q8, q9⟩ := rowIt h2.out.row)
                  | (go_at_call 25; (with_reducible refine (h25.out _ h2.out).mono ?_); rintro e w3 ⟨rfl, hb3⟩; have h3 := Hid.intro (h2.out.below hb3); obtain ⟨p0, p1, p2, p3, p4, p5, p6, p7, p8, p9⟩ := rowIt h3.out.row)
                  | (go_at_call 26; (with_reducible refine (h26.out _ h3.out).mono ?_); rintro e w4 ⟨rfl, hb4⟩; have h4 := Hid.intro (h3.out.below hb4); obtain ⟨r0, r1, r2, r3, r4, r5, r6, r7, r8, r9⟩ := rowIt h4.out.row)
                  | (go_at_call 27; (with_reducible refine (h27.out _).mono ?_); rintro e w5 ⟨rfl, rfl⟩))
                all_goals first | omega | skip
                go_ret
                exact ⟨rfl, h4.out.bel⟩
              · go_enter Tryz.func9, Tryz.ntmps9
                go_wp2_with (first
                  | (go_at_call 23; (with_reducible refine (h23.out _).mono ?_); rintro e w1 ⟨rfl, rfl⟩)
                  | (go_at_call 24; (with_reducible refine (h24.out _).mono ?_); rintro e w2 ⟨rfl, hb2⟩; have h2 := Hid.intro (h0.out.below hb2); obtain ⟨q0, q1, q2, q3, q4, q5, q6, q7, q8, q9⟩ := rowIt h2.out.row)
                  | (go_at_call 25; (with_reducible refine (h25.out _ h2.out).mono ?_); rintro e w3 ⟨rfl, hb3⟩; have h3 := Hid.intro (h2.out.below hb3); obtain ⟨p0, p1, p2, p3, p4, p5, p6, p7, p8, p9⟩ := rowIt h3.out.row)
                  | (go_at_call 26; (with_reducible refine (h26.out _ h3.out).mono ?_); rintro e w4 ⟨rfl, hb4⟩; have h4 := Hid.intro (h3.out.below hb4); obtain ⟨r0, r1, r2, r3, r4, r5, r6, r7, r8, r9⟩ := rowIt h4.out.row)
                  | (go_at_call 27; (with_reducible refine (h27.out _).mono ?_); rintro e w5 ⟨rfl, rfl⟩))
                all_goals first | omega | skip
                go_ret
                exact ⟨rfl, h4.out.bel⟩
  · rw [show ∀ ok, rightN sec ok = 1 from fun ok => by unfold rightN; rw [if_pos (by omega)]]
    have n0 : ¬ sec = 0 := fun h => hsec (.inl h)
    have n1 : ¬ sec = 1 := fun h => hsec (.inr h)
    have s0 : (sec == 0) = false := by simp [n0]
    have s1 : (sec == 1) = false := by simp [n1]
    have b0 : (sec != 0) = true := by simp [n0]
    have b1 : (sec != 1) = true := by simp [n1]
    clear hsec
    go_enter Tryz.func9, Tryz.ntmps9
    go_wp2
    all_goals first | omega | skip
    go_ret
    exact ⟨rfl, h0.out.bel⟩

end Go.Proofs.YtlkmegchaeokgaaGreatDoor
/- The document's Right. -/
namespace Go.Proofs.YtlkmegchaeokgaaGreatDoor
open Go.ChangeShapes Go.WideShapes Go.ChangeAt Go.RowKit
set_option linter.unusedVariables false
set_option maxRecDepth 100000

/-- the document's words, by kind -/
def docB (k : Int) (s : ByteArray) (op a b m f : Int) (ts : List Tm) (c n sec : Int) : Bool :=
  if k = 1 then legB s && bareB false true true true s op a b m f ts.length c n
  else if k = 2 then (((decide (sec = 0) && decide (f = 0)) && decide (checkN op a b m (if spansB (shapeN op) then 1 else f) = 0)) && bareB true false false true s op a b m f ts.length c n) && (if shE (shapeN op) then decide (m = 0) && rightF none ts else bareB false false true false s op a b m f ts.length c n)
  else if k = 3 then numOfB 3 n && bareB true true true false s op a b m f ts.length c n
  else if k = 4 then decide (sec = 0) && bareB true true true true s op a b m f ts.length c n
  else if k = 5 then ((decide (sec = 1) && decide (-128 ≤ n)) && decide (n ≤ 255)) && bareB true true true false s op a b m f ts.length c n
  else if k = 6 then (decide (sec = 1) && rightF none ts) && bareB true true false true s op a b m f ts.length c n
  else if k = 7 then ((decide (sec = 1) && decide (0 ≤ n)) && decide (n ≤ 1048576)) && bareB true true true false s op a b m f ts.length c n
  else false

theorem doc_ok (k : Int) (s : ByteArray) (op a b m f : Int) (ts : List Tm) (c n sec : Int) (hsec : sec = 0 ∨ sec = 1) : docB k s op a b m f ts c n sec = okB k s op a b m f ts c n sec := by
  unfold docB okB
  by_cases h1 : k = 1
  · subst h1
    simp [bareB, standsB, nameB, instB, exprB, hasEB, numOfB, isZ5]
  by_cases h2 : k = 2
  · subst h2
    by_cases hf : f = 0
    · subst hf
      cases hE : shE (shapeN op) <;> rcases hsec with rfl | rfl <;> by_cases hm : m = 0 <;> simp [bareB, standsB, nameB, instB, exprB, hasEB, numOfB, hE, hm, Bool.and_assoc, Bool.and_comm, Bool.and_left_comm]
    · simp [bareB, instB, hf]
  by_cases h3 : k = 3
  · subst h3
    simp [bareB, standsB, nameB, instB, exprB, hasEB, isZ5, Bool.and_assoc, Bool.and_comm, Bool.and_left_comm]
  by_cases h4 : k = 4
  · subst h4
    rcases hsec with rfl | rfl <;> simp [bareB, standsB, nameB, instB, exprB, hasEB, numOfB, isZ5]
  by_cases h5 : k = 5
  · subst h5
    rcases hsec with rfl | rfl <;> simp [bareB, standsB, nameB, instB, exprB, hasEB, numOfB, isZ5, Bool.and_assoc, Bool.and_comm]
  by_cases h6 : k = 6
  · subst h6
    rcases hsec with rfl | rfl <;> simp [bareB, standsB, nameB, instB, exprB, hasEB, numOfB, isZ5, Bool.and_assoc, Bool.and_comm]
  by_cases h7 : k = 7
  · subst h7
    rcases hsec with rfl | rfl <;> simp [bareB, standsB, nameB, instB, exprB, hasEB, numOfB, isZ5, Bool.and_assoc, Bool.and_comm, Bool.and_left_comm]
  simp [standsB, h1, h2, h3, h4, h5, h6, h7]

set_option maxHeartbeats 1000000 in
theorem refRight_k (k : Int) (hk2 : k ≠ 2) (s : ByteArray) (hs : s.size ≤ 1100000) (op a b m f : Int) (va : Option Addr) (vc : Nat) (ts : List Tm) (c n sec : Int) (hsec : sec = 0 ∨ sec = 1) (w : World) (hL : TmLies w va ts) (hlen : ts.length ≤ 9000000) (hN : ∀ t ∈ ts, t.name.length ≤ 1100000) :
    Calls Tryz.prog 14 #[itV k s op a b m f va ts.length vc c n, .int .i64 sec] w fun e w' => e = .returned (.int .i64 (if docB k s op a b m f ts c n sec then 0 else 31)) ∧ Below w.heap.size w w' := by
  have hb0 := below_alloc w (.cells (itA k s op a b m f va ts.length vc c n) 33)
  have hs0 : (w.alloc (.cells (itA k s op a b m f va ts.length vc c n) 33)).heap.size = w.heap.size + 1 := by simp
  have hrow : Hid (∀ w1, Below (w.alloc (.cells (itA k s op a b m f va ts.length vc c n) 33)).heap.size (w.alloc (.cells (itA k s op a b m f va ts.length vc c n) 33)) w1 → w1.heap[w.heap.size]? = some (.cells (itA k s op a b m f va ts.length vc c n) 33 (0, 0))) := fun w1 h1 => by rw [h1.block _ (by omega)]; exact heap_alloc_new w _
  have h32 := fun w1 => refLegal_any s hs w1
  have h37 := fun w1 (h1 : Below w.heap.size w w1) => refRight_any va vc ts c w1 (hL.below h1 (Nat.le_refl _)) hlen hN
  have h38 := Hid.intro (fun w1 => power_any n w1)
  have hD : docB k s op a b m f ts c n sec = if k = 1 then legB s && bareB false true true true s op a b m f ts.length c n
    else if k = 3 then numOfB 3 n && bareB true true true false s op a b m f ts.length c n
    else if k = 4 then decide (sec = 0) && bareB true true true true s op a b m f ts.length c n
    else if k = 5 then ((decide (sec = 1) && decide (-128 ≤ n)) && decide (n ≤ 255)) && bareB true true true false s op a b m f ts.length c n
    else if k = 6 then (decide (sec = 1) && rightF none ts) && bareB true true false true s op a b m f ts.length c n
    else if k = 7 then ((decide (sec = 1) && decide (0 ≤ n)) && decide (n ≤ 1048576)) && bareB true true true false s op a b m f ts.length c n
    else false := by unfold docB; rw [if_neg hk2]
  rw [hD]
  clear hD hL hN hs
  generalize legB s = lb at h32 ⊢
  generalize rightF none ts = rf at h37 ⊢
  generalize ts.length = ln at h37 hb0 hs0 hrow hlen ⊢
  clear hlen
  have hbe : ∀ w1, Below (w.alloc (.cells (itA k s op a b m f va ln vc c n) 33)).heap.size (w.alloc (.cells (itA k s op a b m f va ln vc c n) 33)) w1 → Below w.heap.size w w1 := fun w1 h1 => hb0.trans (h1.mono (by omega))
  replace hbe := Hid.intro hbe
  replace h32 := Hid.intro h32
  replace h37 := Hid.intro h37
  by_cases h1 : k = 1
  · subst h1
    rw [if_pos rfl]
    have h33 := fun w1 => bareFTTT 1 s op a b m f va ln vc c n w1
    generalize bareB false true true true s op a b m f ln c n = bb at h33 ⊢
    replace h33 := Hid.intro h33
    rcases hsec with rfl | rfl <;> cases lb <;> (try cases bb)
    all_goals
      go_enter Tryz.func14, Tryz.ntmps14
      go_wp2_with (first | (go_at_call 32; (with_reducible refine (h32.out _).mono ?_); rintro e w1 ⟨rfl, rfl⟩) | (go_at_call 33; (with_reducible refine (h33.out _).mono ?_); rintro e w2 ⟨rfl, hb2⟩))
      all_goals first | omega | skip
      go_ret
      first | exact ⟨rfl, hbe.out _ hb2⟩ | exact ⟨rfl, hb0⟩
  rw [if_neg h1]
  have g1 : (k == 1) = false := by simp [h1]
  have g2 : (k == 2) = false := by simp [hk2]
  by_cases h3 : k = 3
  · subst h3
    rw [if_pos rfl]
    have h33 := fun w1 => bareTTTF 3 s op a b m f va ln vc c n w1
    generalize bareB true true true false s op a b m f ln c n = bb at h33 ⊢
    replace h33 := Hid.intro h33
    generalize numOfB 3 n = lb2 at h38 ⊢
    rcases hsec with rfl | rfl <;> cases lb2 <;> (try cases bb)
    all_goals
      go_enter Tryz.func14, Tryz.ntmps14
      go_wp2_with (first | (go_at_call 38; (with_reducible refine (h38.out _).mono ?_); rintro e w1 ⟨rfl, rfl⟩) | (go_at_call 33; (with_reducible refine (h33.out _).mono ?_); rintro e w2 ⟨rfl, hb2⟩))
      all_goals first | omega | skip
      go_ret
      first | exact ⟨rfl, hbe.out _ hb2⟩ | exact ⟨rfl, hb0⟩
  rw [if_neg h3]
  have g3 : (k == 3) = false := by simp [h3]
  by_cases h4 : k = 4
  · subst h4
    rw [if_pos rfl]
    have h33 := fun w1 => bareTTTT 4 s op a b m f va ln vc c n w1
    generalize bareB true true true true s op a b m f ln c n = bb at h33 ⊢
    replace h33 := Hid.intro h33
    rcases hsec with rfl | rfl
    · cases bb
      all_goals
        go_enter Tryz.func14, Tryz.ntmps14
        go_wp2_with (first | (go_at_call 33; (with_reducible refine (h33.out _).mono ?_); rintro e w2 ⟨rfl, hb2⟩))
        all_goals first | omega | skip
        go_ret
        exact ⟨rfl, hbe.out _ hb2⟩
    · go_enter Tryz.func14, Tryz.ntmps14
      go_wp2
      all_goals first | omega | skip
      go_ret
      exact ⟨rfl, hb0⟩
  rw [if_neg h4]
  have g4 : (k == 4) = false := by simp [h4]
  by_cases h5 : k = 5
  · subst h5
    rw [if_pos rfl]
    have h33 := fun w1 => bareTTTF 5 s op a b m f va ln vc c n w1
    generalize bareB true true true false s op a b m f ln c n = bb at h33 ⊢
    replace h33 := Hid.intro h33
    rcases hsec with rfl | rfl
    · go_enter Tryz.func14, Tryz.ntmps14
      go_wp2
      all_goals first | omega | skip
      go_ret
      exact ⟨rfl, hb0⟩
    · by_cases hlo : -128 ≤ n
      · by_cases hhi : n ≤ 255
        · rw [show decide (-128 ≤ n) = true by simp [hlo], show decide (n ≤ 255) = true by simp [hhi]]
          cases bb
          all_goals
            go_enter Tryz.func14, Tryz.ntmps14
            go_wp2_with (first | (go_at_call 33; (with_reducible refine (h33.out _).mono ?_); rintro e w2 ⟨rfl, hb2⟩))
            all_goals first | omega | skip
            go_ret
            exact ⟨rfl, hbe.out _ hb2⟩
        · rw [show decide (-128 ≤ n) = true by simp [hlo], show decide (n ≤ 255) = false by simp; omega]
          go_enter Tryz.func14, Tryz.ntmps14
          go_wp2
          all_goals first | omega | skip
          go_ret
          exact ⟨rfl, hb0⟩
      · rw [show decide (-128 ≤ n) = false by simp; omega]
        go_enter Tryz.func14, Tryz.ntmps14
        go_wp2
        all_goals first | omega | skip
        go_ret
        exact ⟨rfl, hb0⟩
  rw [if_neg h5]
  have g5 : (k == 5) = false := by simp [h5]
  by_cases h6 : k = 6
  · subst h6
    rw [if_pos rfl]
    have h33 := fun w1 => bareTTFT 6 s op a b m f va ln vc c n w1
    generalize bareB true true false true s op a b m f ln c n = bb at h33 ⊢
    replace h33 := Hid.intro h33
    rcases hsec with rfl | rfl
    · go_enter Tryz.func14, Tryz.ntmps14
      go_wp2
      all_goals first | omega | skip
      go_ret
      exact ⟨rfl, hb0⟩
    · cases rf
      · go_enter Tryz.func14, Tryz.ntmps14
        go_wp2_with (first | (go_at_call 37; (with_reducible refine (h37.out _ hb0).mono ?_); rintro e w1 ⟨rfl, hb1⟩))
        all_goals first | omega | skip
        go_ret
        exact ⟨rfl, hbe.out _ hb1⟩
      · cases bb
        all_goals
          go_enter Tryz.func14, Tryz.ntmps14
          go_wp2_with (first | (go_at_call 37; (with_reducible refine (h37.out _ hb0).mono ?_); rintro e w1 ⟨rfl, hb1⟩; obtain ⟨q0, q1, q2, q3, q4, q5, q6, q7, q8, q9⟩ := rowIt (hrow.out w1 hb1)) | (go_at_call 33; (with_reducible refine (h33.out _).mono ?_); rintro e w2 ⟨rfl, hb2⟩))
          all_goals first | omega | skip
          go_ret
          exact ⟨rfl, hbe.out _ (hb1.trans (hb2.mono hb1.size))⟩
  rw [if_neg h6]
  have g6 : (k == 6) = false := by simp [h6]
  by_cases h7 : k = 7
  · subst h7
    rw [if_pos rfl]
    have h33 := fun w1 => bareTTTF 7 s op a b m f va ln vc c n w1
    generalize bareB true true true false s op a b m f ln c n = bb at h33 ⊢
    replace h33 := Hid.intro h33
    rcases hsec with rfl | rfl
    · go_enter Tryz.func14, Tryz.ntmps14
      go_wp2
      all_goals first | omega | skip
      go_ret
      exact ⟨rfl, hb0⟩
    · by_cases hlo : 0 ≤ n
      · by_cases hhi : n ≤ 1048576
        · rw [show decide (0 ≤ n) = true by simp [hlo], show decide (n ≤ 1048576) = true by simp [hhi]]
          cases bb
          all_goals
            go_enter Tryz.func14, Tryz.ntmps14
            go_wp2_with (first | (go_at_call 33; (with_reducible refine (h33.out _).mono ?_); rintro e w2 ⟨rfl, hb2⟩))
            all_goals first | omega | skip
            go_ret
            exact ⟨rfl, hbe.out _ hb2⟩
        · rw [show decide (0 ≤ n) = true by simp [hlo], show decide (n ≤ 1048576) = false by simp; omega]
          go_enter Tryz.func14, Tryz.ntmps14
          go_wp2
          all_goals first | omega | skip
          go_ret
          exact ⟨rfl, hb0⟩
      · rw [show decide (0 ≤ n) = false by simp; omega]
        go_enter Tryz.func14, Tryz.ntmps14
        go_wp2
        all_goals first | omega | skip
        go_ret
        exact ⟨rfl, hb0⟩
  rw [if_neg h7]
  have g7 : (k == 7) = false := by simp [h7]
  go_enter Tryz.func14, Tryz.ntmps14
  rcases hsec with rfl | rfl
  all_goals
    go_wp2
    all_goals first | omega | skip
    go_ret
    exact ⟨rfl, hb0⟩

end Go.Proofs.YtlkmegchaeokgaaGreatDoor
/- The document's Right, of code. -/
namespace Go.Proofs.YtlkmegchaeokgaaGreatDoor
open Go.ChangeShapes Go.WideShapes Go.ChangeAt Go.RowKit
set_option linter.unusedVariables false
set_option maxRecDepth 100000

/-- the two boxes, while the document's Right runs -/
structure RC (w : World) (A : Array Value) (op a b m fm : Int) (wr : World) : Prop where
  bel : Below w.heap.size w wr
  row1 : wr.heap[w.heap.size]? = some (.cells A 33 (0, 0))
  row2 : wr.heap[w.heap.size + 1]? = some (.cells #[.int .i64 op, .int .i64 a, .int .i64 b, .int .i32 m, .int .i64 fm] 27 (0, 0))

theorem RC.below {w : World} {A : Array Value} {op a b m fm : Int} {wr w' : World} (h : RC w A op a b m fm wr) (hb : Below wr.heap.size wr w') : RC w A op a b m fm w' :=
  ⟨h.bel.trans (hb.mono h.bel.size), by rw [hb.block _ (blk_lt h.row1)]; exact h.row1, by rw [hb.block _ (blk_lt h.row2)]; exact h.row2⟩

theorem RC.put {w : World} {A : Array Value} {op a b m fm : Int} {wr : World} (h : RC w A op a b m fm wr) : RC w A op a b m 1 (wr.setCell ⟨w.heap.size + 1, 4, none⟩ (.int .i64 1)) := by
  obtain ⟨s1, s2⟩ := row_set h.row2 4 (.int .i64 1)
  exact ⟨h.bel.trans (below_of_grown s2 (by omega) h.bel.size), by rw [s2.block _ (blk_lt h.row1) (by simp)]; exact h.row1, s1⟩

theorem rc_new (w : World) (A : Array Value) (op a b m f : Int) : RC w A op a b m f ((w.alloc (.cells A 33)).alloc (.cells #[.int .i64 op, .int .i64 a, .int .i64 b, .int .i32 m, .int .i64 f] 27)) :=
  ⟨(below_alloc w _).alloc (by simp) _, (two_rows' w A _ 33 27).1, (two_rows' w A _ 33 27).2⟩

theorem rowI {w : World} {g : Nat} {v0 v1 v2 v3 v4 : Value} (h : w.heap[g]? = some (.cells #[v0, v1, v2, v3, v4] 27 (0, 0))) : w.cell? ⟨g, 0, none⟩ = some v0 ∧ w.cell? ⟨g, 1, none⟩ = some v1 ∧ w.cell? ⟨g, 2, none⟩ = some v2 ∧ w.cell? ⟨g, 3, none⟩ = some v3 ∧ w.cell? ⟨g, 4, none⟩ = some v4 ∧ ∀ j, w.frozen? ⟨g, j, none⟩ = false :=
  ⟨(cell_blockT h 0).trans rfl, (cell_blockT h 1).trans rfl, (cell_blockT h 2).trans rfl, (cell_blockT h 3).trans rfl, (cell_blockT h 4).trans rfl, fun j => frozen_of_row w g j _ 27 h⟩

set_option maxHeartbeats 2000000 in
theorem refRight_2 (s : ByteArray) (op a b m f : Int) (hm : -2147483648 ≤ m ∧ m ≤ 2147483647) (va : Option Addr) (vc : Nat) (ts : List Tm) (c n sec : Int) (hsec : sec = 0 ∨ sec = 1) (w : World) (hL : TmLies w va ts) (hlen : ts.length ≤ 9000000) (hN : ∀ t ∈ ts, t.name.length ≤ 1100000) :
    Calls Tryz.prog 14 #[itV 2 s op a b m f va ts.length vc c n, .int .i64 sec] w fun e w' => e = .returned (.int .i64 (if docB 2 s op a b m f ts c n sec then 0 else 31)) ∧ Below w.heap.size w w' := by
  have h0 := rc_new w (itA 2 s op a b m f va ts.length vc c n) op a b m f
  have h34 := fun w1 => refSpans_any op w1
  have h35 := fun (fm : Int) w1 => refCheck_any op a b m fm w1 hm
  have h36 := fun w1 => hasE_any op w1
  have h37 := fun w1 (h1 : Below w.heap.size w w1) => refRight_any va vc ts c w1 (hL.below h1 (Nat.le_refl _)) hlen hN
  have h33a := fun w1 => bareTFFT 2 s op a b m f va ts.length vc c n w1
  have h33b := fun w1 => bareFFTF 2 s op a b m f va ts.length vc c n w1
  have hD : docB 2 s op a b m f ts c n sec = ((((decide (sec = 0) && decide (f = 0)) && decide (checkN op a b m (if spansB (shapeN op) then 1 else f) = 0)) && bareB true false false true s op a b m f ts.length c n) && (if shE (shapeN op) then decide (m = 0) && rightF none ts else bareB false false true false s op a b m f ts.length c n)) := rfl
  rw [hD]
  clear hD hL hN hm
  generalize rightF none ts = rf at h37 ⊢
  generalize spansB (shapeN op) = sp at h34 ⊢
  generalize shE (shapeN op) = se at h36 ⊢
  generalize bareB true false false true s op a b m f ts.length c n = ba at h33a ⊢
  generalize bareB false false true false s op a b m f ts.length c n = bb at h33b ⊢
  generalize ts.length = ln at h0 h37 h33a h33b hlen ⊢
  clear hlen
  replace h34 := Hid.intro h34
  replace h35 := Hid.intro h35
  replace h36 := Hid.intro h36
  replace h37 := Hid.intro h37
  replace h33a := Hid.intro h33a
  replace h33b := Hid.intro h33b
  obtain ⟨fm, hfm⟩ : ∃ fm, fm = if sp then 1 else f := ⟨_, rfl⟩
  rw [← hfm]
  have hrest : Hid (∀ (w2 : World), RC w (itA 2 s op a b m f va ln vc c n) op a b m fm w2 → True) := fun _ _ => trivial
  clear hrest
  replace h0 := Hid.intro h0
  have hpre : ∀ (Q : Prop), Q → Q := fun _ h => h
  clear hpre
  cases sp
  · have hf2 : fm = f := by rw [hfm]; rfl
    subst hf2
    clear hfm
    rcases hsec with rfl | rfl
    · rw [show decide ((0 : Int) = 0) = true from rfl, Bool.true_and]
      by_cases hF0 : fm = 0
      · subst hF0
        have hck := h35.out 0
        generalize checkN op a b m 0 = ck at hck ⊢
        clear h35
        replace hck := Hid.intro hck
        by_cases hc0 : ck = 0
        · subst hc0
          cases ba
          · cases se
            all_goals
              go_enter Tryz.func14, Tryz.ntmps14
              go_upto_region 12 with (go_at_call 34; (with_reducible refine (h34.out _).mono ?_); rintro e w2 ⟨rfl, hb2⟩; have hR2 := Hid.intro (h0.out.below hb2); obtain ⟨w2a0, w2a1, w2a2, w2a3, w2a4, w2a5, w2a6, w2a7, w2a8, w2a9⟩ := rowIt hR2.out.row1; obtain ⟨w2i0, w2i1, w2i2, w2i3, w2i4, w2if⟩ := rowI hR2.out.row2)
              all_goals first | omega | skip
              go_wp2_with (first | (go_at_call 35; (with_reducible refine (hck.out _).mono ?_); rintro e w5 ⟨rfl, hbw5⟩; have hRw5 := Hid.intro (hR2.out.below hbw5); obtain ⟨w5a0, w5a1, w5a2, w5a3, w5a4, w5a5, w5a6, w5a7, w5a8, w5a9⟩ := rowIt hRw5.out.row1; obtain ⟨w5i0, w5i1, w5i2, w5i3, w5i4, w5if⟩ := rowI hRw5.out.row2) | (go_at_call 33; (with_reducible refine (h33a.out _).mono ?_); rintro e w6 ⟨rfl, hbw6⟩; have hRw6 := Hid.intro (hRw5.out.below hbw6); obtain ⟨w6a0, w6a1, w6a2, w6a3, w6a4, w6a5, w6a6, w6a7, w6a8, w6a9⟩ := rowIt hRw6.out.row1; obtain ⟨w6i0, w6i1, w6i2, w6i3, w6i4, w6if⟩ := rowI hRw6.out.row2) | (go_at_call 36; (with_reducible refine (h36.out _).mono ?_); rintro e w7 ⟨rfl, hbw7⟩; have hRw7 := Hid.intro (hRw6.out.below hbw7); obtain ⟨w7a0, w7a1, w7a2, w7a3, w7a4, w7a5, w7a6, w7a7, w7a8, w7a9⟩ := rowIt hRw7.out.row1; obtain ⟨w7i0, w7i1, w7i2, w7i3, w7i4, w7if⟩ := rowI hRw7.out.row2))
              all_goals first | omega | skip
              go_ret
              exact ⟨rfl, hRw7.out.bel⟩
          · cases se
            · cases bb
              all_goals
                go_enter Tryz.func14, Tryz.ntmps14
                go_upto_region 12 with (go_at_call 34; (with_reducible refine (h34.out _).mono ?_); rintro e w2 ⟨rfl, hb2⟩; have hR2 := Hid.intro (h0.out.below hb2); obtain ⟨w2a0, w2a1, w2a2, w2a3, w2a4, w2a5, w2a6, w2a7, w2a8, w2a9⟩ := rowIt hR2.out.row1; obtain ⟨w2i0, w2i1, w2i2, w2i3, w2i4, w2if⟩ := rowI hR2.out.row2)
                all_goals first | omega | skip
                go_wp2_with (first | (go_at_call 35; (with_reducible refine (hck.out _).mono ?_); rintro e w5 ⟨rfl, hbw5⟩; have hRw5 := Hid.intro (hR2.out.below hbw5); obtain ⟨w5a0, w5a1, w5a2, w5a3, w5a4, w5a5, w5a6, w5a7, w5a8, w5a9⟩ := rowIt hRw5.out.row1; obtain ⟨w5i0, w5i1, w5i2, w5i3, w5i4, w5if⟩ := rowI hRw5.out.row2) | (go_at_call 33; (with_reducible refine (h33a.out _).mono ?_); rintro e w6 ⟨rfl, hbw6⟩; have hRw6 := Hid.intro (hRw5.out.below hbw6); obtain ⟨w6a0, w6a1, w6a2, w6a3, w6a4, w6a5, w6a6, w6a7, w6a8, w6a9⟩ := rowIt hRw6.out.row1; obtain ⟨w6i0, w6i1, w6i2, w6i3, w6i4, w6if⟩ := rowI hRw6.out.row2) | (go_at_call 36; (with_reducible refine (h36.out _).mono ?_); rintro e w7 ⟨rfl, hbw7⟩; have hRw7 := Hid.intro (hRw6.out.below hbw7); obtain ⟨w7a0, w7a1, w7a2, w7a3, w7a4, w7a5, w7a6, w7a7, w7a8, w7a9⟩ := rowIt hRw7.out.row1; obtain ⟨w7i0, w7i1, w7i2, w7i3, w7i4, w7if⟩ := rowI hRw7.out.row2) | (go_at_call 33; (with_reducible refine (h33b.out _).mono ?_); rintro e w8 ⟨rfl, hbw8⟩; have hRw8 := Hid.intro (hRw7.out.below hbw8); obtain ⟨w8a0, w8a1, w8a2, w8a3, w8a4, w8a5, w8a6, w8a7, w8a8, w8a9⟩ := rowIt hRw8.out.row1; obtain ⟨w8i0, w8i1, w8i2, w8i3, w8i4, w8if⟩ := rowI hRw8.out.row2))
                all_goals first | omega | skip
                go_ret
                exact ⟨rfl, hRw8.out.bel⟩
            · by_cases hm0 : m = 0
              · subst hm0
                cases rf
                all_goals
                  go_enter Tryz.func14, Tryz.ntmps14
                  go_upto_region 12 with (go_at_call 34; (with_reducible refine (h34.out _).mono ?_); rintro e w2 ⟨rfl, hb2⟩; have hR2 := Hid.intro (h0.out.below hb2); obtain ⟨w2a0, w2a1, w2a2, w2a3, w2a4, w2a5, w2a6, w2a7, w2a8, w2a9⟩ := rowIt hR2.out.row1; obtain ⟨w2i0, w2i1, w2i2, w2i3, w2i4, w2if⟩ := rowI hR2.out.row2)
                  all_goals first | omega | skip
                  go_wp2_with (first | (go_at_call 35; (with_reducible refine (hck.out _).mono ?_); rintro e w5 ⟨rfl, hbw5⟩; have hRw5 := Hid.intro (hR2.out.below hbw5); obtain ⟨w5a0, w5a1, w5a2, w5a3, w5a4, w5a5, w5a6, w5a7, w5a8, w5a9⟩ := rowIt hRw5.out.row1; obtain ⟨w5i0, w5i1, w5i2, w5i3, w5i4, w5if⟩ := rowI hRw5.out.row2) | (go_at_call 33; (with_reducible refine (h33a.out _).mono ?_); rintro e w6 ⟨rfl, hbw6⟩; have hRw6 := Hid.intro (hRw5.out.below hbw6); obtain ⟨w6a0, w6a1, w6a2, w6a3, w6a4, w6a5, w6a6, w6a7, w6a8, w6a9⟩ := rowIt hRw6.out.row1; obtain ⟨w6i0, w6i1, w6i2, w6i3, w6i4, w6if⟩ := rowI hRw6.out.row2) | (go_at_call 36; (with_reducible refine (h36.out _).mono ?_); rintro e w7 ⟨rfl, hbw7⟩; have hRw7 := Hid.intro (hRw6.out.below hbw7); obtain ⟨w7a0, w7a1, w7a2, w7a3, w7a4, w7a5, w7a6, w7a7, w7a8, w7a9⟩ := rowIt hRw7.out.row1; obtain ⟨w7i0, w7i1, w7i2, w7i3, w7i4, w7if⟩ := rowI hRw7.out.row2) | (go_at_call 37; (with_reducible refine (h37.out _ hRw7.out.bel).mono ?_); rintro e w8 ⟨rfl, hbw8⟩; have hRw8 := Hid.intro (hRw7.out.below hbw8)))
                  all_goals first | omega | skip
                  go_ret
                  exact ⟨rfl, hRw8.out.bel⟩
              · have hm1 : (m == 0) = false := by simp [hm0]
                rw [show decide (m = 0) = false by simp [hm0]]
                go_enter Tryz.func14, Tryz.ntmps14
                go_upto_region 12 with (go_at_call 34; (with_reducible refine (h34.out _).mono ?_); rintro e w2 ⟨rfl, hb2⟩; have hR2 := Hid.intro (h0.out.below hb2); obtain ⟨w2a0, w2a1, w2a2, w2a3, w2a4, w2a5, w2a6, w2a7, w2a8, w2a9⟩ := rowIt hR2.out.row1; obtain ⟨w2i0, w2i1, w2i2, w2i3, w2i4, w2if⟩ := rowI hR2.out.row2)
                all_goals first | omega | skip
                go_wp2_with (first | (go_at_call 35; (with_reducible refine (hck.out _).mono ?_); rintro e w5 ⟨rfl, hbw5⟩; have hRw5 := Hid.intro (hR2.out.below hbw5); obtain ⟨w5a0, w5a1, w5a2, w5a3, w5a4, w5a5, w5a6, w5a7, w5a8, w5a9⟩ := rowIt hRw5.out.row1; obtain ⟨w5i0, w5i1, w5i2, w5i3, w5i4, w5if⟩ := rowI hRw5.out.row2) | (go_at_call 33; (with_reducible refine (h33a.out _).mono ?_); rintro e w6 ⟨rfl, hbw6⟩; have hRw6 := Hid.intro (hRw5.out.below hbw6); obtain ⟨w6a0, w6a1, w6a2, w6a3, w6a4, w6a5, w6a6, w6a7, w6a8, w6a9⟩ := rowIt hRw6.out.row1; obtain ⟨w6i0, w6i1, w6i2, w6i3, w6i4, w6if⟩ := rowI hRw6.out.row2) | (go_at_call 36; (with_reducible refine (h36.out _).mono ?_); rintro e w7 ⟨rfl, hbw7⟩; have hRw7 := Hid.intro (hRw6.out.below hbw7); obtain ⟨w7a0, w7a1, w7a2, w7a3, w7a4, w7a5, w7a6, w7a7, w7a8, w7a9⟩ := rowIt hRw7.out.row1; obtain ⟨w7i0, w7i1, w7i2, w7i3, w7i4, w7if⟩ := rowI hRw7.out.row2))
                all_goals first | omega | skip
                go_ret
                exact ⟨rfl, hRw7.out.bel⟩
        · have hc1 : (ck == 0) = false := by simp [hc0]
          rw [show decide (ck = 0) = false by simp [hc0]]
          cases se
          all_goals
            go_enter Tryz.func14, Tryz.ntmps14
            go_upto_region 12 with (go_at_call 34; (with_reducible refine (h34.out _).mono ?_); rintro e w2 ⟨rfl, hb2⟩; have hR2 := Hid.intro (h0.out.below hb2); obtain ⟨w2a0, w2a1, w2a2, w2a3, w2a4, w2a5, w2a6, w2a7, w2a8, w2a9⟩ := rowIt hR2.out.row1; obtain ⟨w2i0, w2i1, w2i2, w2i3, w2i4, w2if⟩ := rowI hR2.out.row2)
            all_goals first | omega | skip
            go_wp2_with (first | (go_at_call 35; (with_reducible refine (hck.out _).mono ?_); rintro e w5 ⟨rfl, hbw5⟩; have hRw5 := Hid.intro (hR2.out.below hbw5); obtain ⟨w5a0, w5a1, w5a2, w5a3, w5a4, w5a5, w5a6, w5a7, w5a8, w5a9⟩ := rowIt hRw5.out.row1; obtain ⟨w5i0, w5i1, w5i2, w5i3, w5i4, w5if⟩ := rowI hRw5.out.row2) | (go_at_call 36; (with_reducible refine (h36.out _).mono ?_); rintro e w7 ⟨rfl, hbw7⟩; have hRw7 := Hid.intro (hRw5.out.below hbw7); obtain ⟨w7a0, w7a1, w7a2, w7a3, w7a4, w7a5, w7a6, w7a7, w7a8, w7a9⟩ := rowIt hRw7.out.row1; obtain ⟨w7i0, w7i1, w7i2, w7i3, w7i4, w7if⟩ := rowI hRw7.out.row2))
            all_goals first | omega | skip
            go_ret
            exact ⟨rfl, hRw7.out.bel⟩
      · have hF1 : (fm == 0) = false := by simp [hF0]
        rw [show decide (fm = 0) = false by simp [hF0]]
        cases se
        all_goals
          go_enter Tryz.func14, Tryz.ntmps14
          go_upto_region 12 with (go_at_call 34; (with_reducible refine (h34.out _).mono ?_); rintro e w2 ⟨rfl, hb2⟩; have hR2 := Hid.intro (h0.out.below hb2); obtain ⟨w2a0, w2a1, w2a2, w2a3, w2a4, w2a5, w2a6, w2a7, w2a8, w2a9⟩ := rowIt hR2.out.row1; obtain ⟨w2i0, w2i1, w2i2, w2i3, w2i4, w2if⟩ := rowI hR2.out.row2)
          all_goals first | omega | skip
          go_wp2_with (first | (go_at_call 36; (with_reducible refine (h36.out _).mono ?_); rintro e w7 ⟨rfl, hbw7⟩; have hRw7 := Hid.intro (hR2.out.below hbw7); obtain ⟨w7a0, w7a1, w7a2, w7a3, w7a4, w7a5, w7a6, w7a7, w7a8, w7a9⟩ := rowIt hRw7.out.row1; obtain ⟨w7i0, w7i1, w7i2, w7i3, w7i4, w7if⟩ := rowI hRw7.out.row2))
          all_goals first | omega | skip
          go_ret
          exact ⟨rfl, hRw7.out.bel⟩
    · rw [show decide ((1 : Int) = 0) = false from rfl, Bool.false_and, Bool.false_and, Bool.false_and, Bool.false_and]
      cases se
      all_goals
        go_enter Tryz.func14, Tryz.ntmps14
        go_upto_region 12 with (go_at_call 34; (with_reducible refine (h34.out _).mono ?_); rintro e w2 ⟨rfl, hb2⟩; have hR2 := Hid.intro (h0.out.below hb2); obtain ⟨w2a0, w2a1, w2a2, w2a3, w2a4, w2a5, w2a6, w2a7, w2a8, w2a9⟩ := rowIt hR2.out.row1; obtain ⟨w2i0, w2i1, w2i2, w2i3, w2i4, w2if⟩ := rowI hR2.out.row2)
        all_goals first | omega | skip
        go_wp2_with (first | (go_at_call 36; (with_reducible refine (h36.out _).mono ?_); rintro e w7 ⟨rfl, hbw7⟩; have hRw7 := Hid.intro (hR2.out.below hbw7); obtain ⟨w7a0, w7a1, w7a2, w7a3, w7a4, w7a5, w7a6, w7a7, w7a8, w7a9⟩ := rowIt hRw7.out.row1; obtain ⟨w7i0, w7i1, w7i2, w7i3, w7i4, w7if⟩ := rowI hRw7.out.row2))
        all_goals first | omega | skip
        go_ret
        exact ⟨rfl, hRw7.out.bel⟩
  · have hf2 : fm = 1 := by rw [hfm]; rfl
    subst hf2
    clear hfm
    rcases hsec with rfl | rfl
    · rw [show decide ((0 : Int) = 0) = true from rfl, Bool.true_and]
      by_cases hF0 : f = 0
      · subst hF0
        have hck := h35.out 1
        generalize checkN op a b m 1 = ck at hck ⊢
        clear h35
        replace hck := Hid.intro hck
        by_cases hc0 : ck = 0
        · subst hc0
          cases ba
          · cases se
            all_goals
              go_enter Tryz.func14, Tryz.ntmps14
              go_upto_region 12 with (go_at_call 34; (with_reducible refine (h34.out _).mono ?_); rintro e w2 ⟨rfl, hb2⟩; have hR2 := Hid.intro (h0.out.below hb2); obtain ⟨w2a0, w2a1, w2a2, w2a3, w2a4, w2a5, w2a6, w2a7, w2a8, w2a9⟩ := rowIt hR2.out.row1; obtain ⟨w2i0, w2i1, w2i2, w2i3, w2i4, w2if⟩ := rowI hR2.out.row2)
              all_goals first | omega | skip
              have hR3 := hR2.out.put
              generalize (w2.setCell ⟨w.heap.size + 1, 4, none⟩ (.int .i64 1)) = w3 at hR3 ⊢
              replace hR3 := Hid.intro hR3
              obtain ⟨w3a0, w3a1, w3a2, w3a3, w3a4, w3a5, w3a6, w3a7, w3a8, w3a9⟩ := rowIt hR3.out.row1
              obtain ⟨w3i0, w3i1, w3i2, w3i3, w3i4, w3if⟩ := rowI hR3.out.row2
              go_wp2_with (first | (go_at_call 35; (with_reducible refine (hck.out _).mono ?_); rintro e w5 ⟨rfl, hbw5⟩; have hRw5 := Hid.intro (hR3.out.below hbw5); obtain ⟨w5a0, w5a1, w5a2, w5a3, w5a4, w5a5, w5a6, w5a7, w5a8, w5a9⟩ := rowIt hRw5.out.row1; obtain ⟨w5i0, w5i1, w5i2, w5i3, w5i4, w5if⟩ := rowI hRw5.out.row2) | (go_at_call 33; (with_reducible refine (h33a.out _).mono ?_); rintro e w6 ⟨rfl, hbw6⟩; have hRw6 := Hid.intro (hRw5.out.below hbw6); obtain ⟨w6a0, w6a1, w6a2, w6a3, w6a4, w6a5, w6a6, w6a7, w6a8, w6a9⟩ := rowIt hRw6.out.row1; obtain ⟨w6i0, w6i1, w6i2, w6i3, w6i4, w6if⟩ := rowI hRw6.out.row2) | (go_at_call 36; (with_reducible refine (h36.out _).mono ?_); rintro e w7 ⟨rfl, hbw7⟩; have hRw7 := Hid.intro (hRw6.out.below hbw7); obtain ⟨w7a0, w7a1, w7a2, w7a3, w7a4, w7a5, w7a6, w7a7, w7a8, w7a9⟩ := rowIt hRw7.out.row1; obtain ⟨w7i0, w7i1, w7i2, w7i3, w7i4, w7if⟩ := rowI hRw7.out.row2))
              all_goals first | omega | skip
              go_ret
              exact ⟨rfl, hRw7.out.bel⟩
          · cases se
            · cases bb
              all_goals
                go_enter Tryz.func14, Tryz.ntmps14
                go_upto_region 12 with (go_at_call 34; (with_reducible refine (h34.out _).mono ?_); rintro e w2 ⟨rfl, hb2⟩; have hR2 := Hid.intro (h0.out.below hb2); obtain ⟨w2a0, w2a1, w2a2, w2a3, w2a4, w2a5, w2a6, w2a7, w2a8, w2a9⟩ := rowIt hR2.out.row1; obtain ⟨w2i0, w2i1, w2i2, w2i3, w2i4, w2if⟩ := rowI hR2.out.row2)
                all_goals first | omega | skip
                have hR3 := hR2.out.put
                generalize (w2.setCell ⟨w.heap.size + 1, 4, none⟩ (.int .i64 1)) = w3 at hR3 ⊢
                replace hR3 := Hid.intro hR3
                obtain ⟨w3a0, w3a1, w3a2, w3a3, w3a4, w3a5, w3a6, w3a7, w3a8, w3a9⟩ := rowIt hR3.out.row1
                obtain ⟨w3i0, w3i1, w3i2, w3i3, w3i4, w3if⟩ := rowI hR3.out.row2
                go_wp2_with (first | (go_at_call 35; (with_reducible refine (hck.out _).mono ?_); rintro e w5 ⟨rfl, hbw5⟩; have hRw5 := Hid.intro (hR3.out.below hbw5); obtain ⟨w5a0, w5a1, w5a2, w5a3, w5a4, w5a5, w5a6, w5a7, w5a8, w5a9⟩ := rowIt hRw5.out.row1; obtain ⟨w5i0, w5i1, w5i2, w5i3, w5i4, w5if⟩ := rowI hRw5.out.row2) | (go_at_call 33; (with_reducible refine (h33a.out _).mono ?_); rintro e w6 ⟨rfl, hbw6⟩; have hRw6 := Hid.intro (hRw5.out.below hbw6); obtain ⟨w6a0, w6a1, w6a2, w6a3, w6a4, w6a5, w6a6, w6a7, w6a8, w6a9⟩ := rowIt hRw6.out.row1; obtain ⟨w6i0, w6i1, w6i2, w6i3, w6i4, w6if⟩ := rowI hRw6.out.row2) | (go_at_call 36; (with_reducible refine (h36.out _).mono ?_); rintro e w7 ⟨rfl, hbw7⟩; have hRw7 := Hid.intro (hRw6.out.below hbw7); obtain ⟨w7a0, w7a1, w7a2, w7a3, w7a4, w7a5, w7a6, w7a7, w7a8, w7a9⟩ := rowIt hRw7.out.row1; obtain ⟨w7i0, w7i1, w7i2, w7i3, w7i4, w7if⟩ := rowI hRw7.out.row2) | (go_at_call 33; (with_reducible refine (h33b.out _).mono ?_); rintro e w8 ⟨rfl, hbw8⟩; have hRw8 := Hid.intro (hRw7.out.below hbw8); obtain ⟨w8a0, w8a1, w8a2, w8a3, w8a4, w8a5, w8a6, w8a7, w8a8, w8a9⟩ := rowIt hRw8.out.row1; obtain ⟨w8i0, w8i1, w8i2, w8i3, w8i4, w8if⟩ := rowI hRw8.out.row2))
                all_goals first | omega | skip
                go_ret
                exact ⟨rfl, hRw8.out.bel⟩
            · by_cases hm0 : m = 0
              · subst hm0
                cases rf
                all_goals
                  go_enter Tryz.func14, Tryz.ntmps14
                  go_upto_region 12 with (go_at_call 34; (with_reducible refine (h34.out _).mono ?_); rintro e w2 ⟨rfl, hb2⟩; have hR2 := Hid.intro (h0.out.below hb2); obtain ⟨w2a0, w2a1, w2a2, w2a3, w2a4, w2a5, w2a6, w2a7, w2a8, w2a9⟩ := rowIt hR2.out.row1; obtain ⟨w2i0, w2i1, w2i2, w2i3, w2i4, w2if⟩ := rowI hR2.out.row2)
                  all_goals first | omega | skip
                  have hR3 := hR2.out.put
                  generalize (w2.setCell ⟨w.heap.size + 1, 4, none⟩ (.int .i64 1)) = w3 at hR3 ⊢
                  replace hR3 := Hid.intro hR3
                  obtain ⟨w3a0, w3a1, w3a2, w3a3, w3a4, w3a5, w3a6, w3a7, w3a8, w3a9⟩ := rowIt hR3.out.row1
                  obtain ⟨w3i0, w3i1, w3i2, w3i3, w3i4, w3if⟩ := rowI hR3.out.row2
                  go_wp2_with (first | (go_at_call 35; (with_reducible refine (hck.out _).mono ?_); rintro e w5 ⟨rfl, hbw5⟩; have hRw5 := Hid.intro (hR3.out.below hbw5); obtain ⟨w5a0, w5a1, w5a2, w5a3, w5a4, w5a5, w5a6, w5a7, w5a8, w5a9⟩ := rowIt hRw5.out.row1; obtain ⟨w5i0, w5i1, w5i2, w5i3, w5i4, w5if⟩ := rowI hRw5.out.row2) | (go_at_call 33; (with_reducible refine (h33a.out _).mono ?_); rintro e w6 ⟨rfl, hbw6⟩; have hRw6 := Hid.intro (hRw5.out.below hbw6); obtain ⟨w6a0, w6a1, w6a2, w6a3, w6a4, w6a5, w6a6, w6a7, w6a8, w6a9⟩ := rowIt hRw6.out.row1; obtain ⟨w6i0, w6i1, w6i2, w6i3, w6i4, w6if⟩ := rowI hRw6.out.row2) | (go_at_call 36; (with_reducible refine (h36.out _).mono ?_); rintro e w7 ⟨rfl, hbw7⟩; have hRw7 := Hid.intro (hRw6.out.below hbw7); obtain ⟨w7a0, w7a1, w7a2, w7a3, w7a4, w7a5, w7a6, w7a7, w7a8, w7a9⟩ := rowIt hRw7.out.row1; obtain ⟨w7i0, w7i1, w7i2, w7i3, w7i4, w7if⟩ := rowI hRw7.out.row2) | (go_at_call 37; (with_reducible refine (h37.out _ hRw7.out.bel).mono ?_); rintro e w8 ⟨rfl, hbw8⟩; have hRw8 := Hid.intro (hRw7.out.below hbw8)))
                  all_goals first | omega | skip
                  go_ret
                  exact ⟨rfl, hRw8.out.bel⟩
              · have hm1 : (m == 0) = false := by simp [hm0]
                rw [show decide (m = 0) = false by simp [hm0]]
                go_enter Tryz.func14, Tryz.ntmps14
                go_upto_region 12 with (go_at_call 34; (with_reducible refine (h34.out _).mono ?_); rintro e w2 ⟨rfl, hb2⟩; have hR2 := Hid.intro (h0.out.below hb2); obtain ⟨w2a0, w2a1, w2a2, w2a3, w2a4, w2a5, w2a6, w2a7, w2a8, w2a9⟩ := rowIt hR2.out.row1; obtain ⟨w2i0, w2i1, w2i2, w2i3, w2i4, w2if⟩ := rowI hR2.out.row2)
                all_goals first | omega | skip
                have hR3 := hR2.out.put
                generalize (w2.setCell ⟨w.heap.size + 1, 4, none⟩ (.int .i64 1)) = w3 at hR3 ⊢
                replace hR3 := Hid.intro hR3
                obtain ⟨w3a0, w3a1, w3a2, w3a3, w3a4, w3a5, w3a6, w3a7, w3a8, w3a9⟩ := rowIt hR3.out.row1
                obtain ⟨w3i0, w3i1, w3i2, w3i3, w3i4, w3if⟩ := rowI hR3.out.row2
                go_wp2_with (first | (go_at_call 35; (with_reducible refine (hck.out _).mono ?_); rintro e w5 ⟨rfl, hbw5⟩; have hRw5 := Hid.intro (hR3.out.below hbw5); obtain ⟨w5a0, w5a1, w5a2, w5a3, w5a4, w5a5, w5a6, w5a7, w5a8, w5a9⟩ := rowIt hRw5.out.row1; obtain ⟨w5i0, w5i1, w5i2, w5i3, w5i4, w5if⟩ := rowI hRw5.out.row2) | (go_at_call 33; (with_reducible refine (h33a.out _).mono ?_); rintro e w6 ⟨rfl, hbw6⟩; have hRw6 := Hid.intro (hRw5.out.below hbw6); obtain ⟨w6a0, w6a1, w6a2, w6a3, w6a4, w6a5, w6a6, w6a7, w6a8, w6a9⟩ := rowIt hRw6.out.row1; obtain ⟨w6i0, w6i1, w6i2, w6i3, w6i4, w6if⟩ := rowI hRw6.out.row2) | (go_at_call 36; (with_reducible refine (h36.out _).mono ?_); rintro e w7 ⟨rfl, hbw7⟩; have hRw7 := Hid.intro (hRw6.out.below hbw7); obtain ⟨w7a0, w7a1, w7a2, w7a3, w7a4, w7a5, w7a6, w7a7, w7a8, w7a9⟩ := rowIt hRw7.out.row1; obtain ⟨w7i0, w7i1, w7i2, w7i3, w7i4, w7if⟩ := rowI hRw7.out.row2))
                all_goals first | omega | skip
                go_ret
                exact ⟨rfl, hRw7.out.bel⟩
        · have hc1 : (ck == 0) = false := by simp [hc0]
          rw [show decide (ck = 0) = false by simp [hc0]]
          cases se
          all_goals
            go_enter Tryz.func14, Tryz.ntmps14
            go_upto_region 12 with (go_at_call 34; (with_reducible refine (h34.out _).mono ?_); rintro e w2 ⟨rfl, hb2⟩; have hR2 := Hid.intro (h0.out.below hb2); obtain ⟨w2a0, w2a1, w2a2, w2a3, w2a4, w2a5, w2a6, w2a7, w2a8, w2a9⟩ := rowIt hR2.out.row1; obtain ⟨w2i0, w2i1, w2i2, w2i3, w2i4, w2if⟩ := rowI hR2.out.row2)
            all_goals first | omega | skip
            have hR3 := hR2.out.put
            generalize (w2.setCell ⟨w.heap.size + 1, 4, none⟩ (.int .i64 1)) = w3 at hR3 ⊢
            replace hR3 := Hid.intro hR3
            obtain ⟨w3a0, w3a1, w3a2, w3a3, w3a4, w3a5, w3a6, w3a7, w3a8, w3a9⟩ := rowIt hR3.out.row1
            obtain ⟨w3i0, w3i1, w3i2, w3i3, w3i4, w3if⟩ := rowI hR3.out.row2
            go_wp2_with (first | (go_at_call 35; (with_reducible refine (hck.out _).mono ?_); rintro e w5 ⟨rfl, hbw5⟩; have hRw5 := Hid.intro (hR3.out.below hbw5); obtain ⟨w5a0, w5a1, w5a2, w5a3, w5a4, w5a5, w5a6, w5a7, w5a8, w5a9⟩ := rowIt hRw5.out.row1; obtain ⟨w5i0, w5i1, w5i2, w5i3, w5i4, w5if⟩ := rowI hRw5.out.row2) | (go_at_call 36; (with_reducible refine (h36.out _).mono ?_); rintro e w7 ⟨rfl, hbw7⟩; have hRw7 := Hid.intro (hRw5.out.below hbw7); obtain ⟨w7a0, w7a1, w7a2, w7a3, w7a4, w7a5, w7a6, w7a7, w7a8, w7a9⟩ := rowIt hRw7.out.row1; obtain ⟨w7i0, w7i1, w7i2, w7i3, w7i4, w7if⟩ := rowI hRw7.out.row2))
            all_goals first | omega | skip
            go_ret
            exact ⟨rfl, hRw7.out.bel⟩
      · have hF1 : (f == 0) = false := by simp [hF0]
        rw [show decide (f = 0) = false by simp [hF0]]
        cases se
        all_goals
          go_enter Tryz.func14, Tryz.ntmps14
          go_upto_region 12 with (go_at_call 34; (with_reducible refine (h34.out _).mono ?_); rintro e w2 ⟨rfl, hb2⟩; have hR2 := Hid.intro (h0.out.below hb2); obtain ⟨w2a0, w2a1, w2a2, w2a3, w2a4, w2a5, w2a6, w2a7, w2a8, w2a9⟩ := rowIt hR2.out.row1; obtain ⟨w2i0, w2i1, w2i2, w2i3, w2i4, w2if⟩ := rowI hR2.out.row2)
          all_goals first | omega | skip
          have hR3 := hR2.out.put
          generalize (w2.setCell ⟨w.heap.size + 1, 4, none⟩ (.int .i64 1)) = w3 at hR3 ⊢
          replace hR3 := Hid.intro hR3
          obtain ⟨w3a0, w3a1, w3a2, w3a3, w3a4, w3a5, w3a6, w3a7, w3a8, w3a9⟩ := rowIt hR3.out.row1
          obtain ⟨w3i0, w3i1, w3i2, w3i3, w3i4, w3if⟩ := rowI hR3.out.row2
          go_wp2_with (first | (go_at_call 36; (with_reducible refine (h36.out _).mono ?_); rintro e w7 ⟨rfl, hbw7⟩; have hRw7 := Hid.intro (hR3.out.below hbw7); obtain ⟨w7a0, w7a1, w7a2, w7a3, w7a4, w7a5, w7a6, w7a7, w7a8, w7a9⟩ := rowIt hRw7.out.row1; obtain ⟨w7i0, w7i1, w7i2, w7i3, w7i4, w7if⟩ := rowI hRw7.out.row2))
          all_goals first | omega | skip
          go_ret
          exact ⟨rfl, hRw7.out.bel⟩
    · rw [show decide ((1 : Int) = 0) = false from rfl, Bool.false_and, Bool.false_and, Bool.false_and, Bool.false_and]
      cases se
      all_goals
        go_enter Tryz.func14, Tryz.ntmps14
        go_upto_region 12 with (go_at_call 34; (with_reducible refine (h34.out _).mono ?_); rintro e w2 ⟨rfl, hb2⟩; have hR2 := Hid.intro (h0.out.below hb2); obtain ⟨w2a0, w2a1, w2a2, w2a3, w2a4, w2a5, w2a6, w2a7, w2a8, w2a9⟩ := rowIt hR2.out.row1; obtain ⟨w2i0, w2i1, w2i2, w2i3, w2i4, w2if⟩ := rowI hR2.out.row2)
        all_goals first | omega | skip
        have hR3 := hR2.out.put
        generalize (w2.setCell ⟨w.heap.size + 1, 4, none⟩ (.int .i64 1)) = w3 at hR3 ⊢
        replace hR3 := Hid.intro hR3
        obtain ⟨w3a0, w3a1, w3a2, w3a3, w3a4, w3a5, w3a6, w3a7, w3a8, w3a9⟩ := rowIt hR3.out.row1
        obtain ⟨w3i0, w3i1, w3i2, w3i3, w3i4, w3if⟩ := rowI hR3.out.row2
        go_wp2_with (first | (go_at_call 36; (with_reducible refine (h36.out _).mono ?_); rintro e w7 ⟨rfl, hbw7⟩; have hRw7 := Hid.intro (hR3.out.below hbw7); obtain ⟨w7a0, w7a1, w7a2, w7a3, w7a4, w7a5, w7a6, w7a7, w7a8, w7a9⟩ := rowIt hRw7.out.row1; obtain ⟨w7i0, w7i1, w7i2, w7i3, w7i4, w7if⟩ := rowI hRw7.out.row2))
        all_goals first | omega | skip
        go_ret
        exact ⟨rfl, hRw7.out.bel⟩

end Go.Proofs.YtlkmegchaeokgaaGreatDoor
namespace Go.Proofs.YtlkmegchaeokgaaGreatDoor
open Go.ChangeShapes Go.WideShapes Go.ChangeAt Go.RowKit
set_option linter.unusedVariables false
set_option maxRecDepth 100000

set_option maxHeartbeats 1000000 in
theorem refRight_o (k : Int) (s : ByteArray) (op a b m f : Int) (va : Option Addr) (vc ln : Nat) (c n sec : Int) (h0 : sec ≠ 0) (h1 : sec ≠ 1) (w : World) :
    Calls Tryz.prog 14 #[itV k s op a b m f va ln vc c n, .int .i64 sec] w fun e w' => e = .returned (.int .i64 1) ∧ Below w.heap.size w w' := by
  have hb0 := Hid.intro (below_alloc w (.cells (itA k s op a b m f va ln vc c n) 33))
  have n0 : ¬ sec = 0 := h0
  have n1 : ¬ sec = 1 := h1
  have s0 : (sec == 0) = false := by simp [n0]
  have s1 : (sec == 1) = false := by simp [n1]
  have b0 : (sec != 0) = true := by simp [n0]
  have b1 : (sec != 1) = true := by simp [n1]
  clear h0 h1
  go_enter Tryz.func14, Tryz.ntmps14
  go_wp2
  all_goals first | omega | skip
  go_ret
  exact ⟨rfl, hb0.out⟩

theorem docRight_any (k : Int) (s : ByteArray) (hs : s.size ≤ 1100000) (op a b m f : Int) (hm : -2147483648 ≤ m ∧ m ≤ 2147483647) (va : Option Addr) (vc : Nat) (ts : List Tm) (c n sec : Int) (w : World) (hL : TmLies w va ts) (hlen : ts.length ≤ 9000000) (hN : ∀ t ∈ ts, t.name.length ≤ 1100000) :
    Calls Tryz.prog 14 #[itV k s op a b m f va ts.length vc c n, .int .i64 sec] w fun e w' => e = .returned (.int .i64 (rightN sec (okB k s op a b m f ts c n sec))) ∧ Below w.heap.size w w' := by
  by_cases hsec : sec = 0 ∨ sec = 1
  · have hn : ¬ (sec ≠ 0 ∧ sec ≠ 1) := by omega
    rw [rightN, if_neg hn, ← doc_ok k s op a b m f ts c n sec hsec]
    by_cases hk : k = 2
    · subst hk
      exact refRight_2 s op a b m f hm va vc ts c n sec hsec w hL hlen hN
    · exact refRight_k k hk s hs op a b m f va vc ts c n sec hsec w hL hlen hN
  · have hn : sec ≠ 0 ∧ sec ≠ 1 := by omega
    rw [rightN, if_pos hn]
    exact refRight_o k s op a b m f va vc ts.length c n sec hn.1 hn.2 w

end Go.Proofs.YtlkmegchaeokgaaGreatDoor
