/- item's Right. -/
import Derived.Test.YtlkmegchaeokgaaGreatDoorIt9
import Derived.Test.YtlkmegchaeokgaaGreatDoorRefRight
/- item's Right: its parts. -/
namespace Go.Proofs.YtlkmegchaeokgaaGreatDoor
open Go.ChangeShapes Go.WideShapes Go.ChangeAt Go.RowKit
set_option linter.unusedVariables false
set_option maxRecDepth 100000

abbrev itA (k : Int) (s : ByteArray) (op a b m f : Int) (va : Option Addr) (ln vc : Nat) (c n : Int) : Array Value := #[.int .i64 k, .string s, .int .i64 op, .int .i64 a, .int .i64 b, .int .i32 m, .int .i64 f, .slice va ln vc, .int .u32 c, .int .i64 n]
abbrev itV (k : Int) (s : ByteArray) (op a b m f : Int) (va : Option Addr) (ln vc : Nat) (c n : Int) : Value := .agg (itA k s op a b m f va ln vc c n)

/-- has an operation an expression, by its shape? -/
def shE (S : Int) : Bool := S == 10 || S == 11 || S == 12 || S == 13
def hasEB (k op : Int) : Bool := if k = 2 then shE (shapeN op) else decide (k = 6)

theorem hasExpression_any (k : Int) (s : ByteArray) (op a b m f : Int) (va : Option Addr) (ln vc : Nat) (c n : Int) (w : World) (hT : Tab w) :
    Calls Tryz.prog 47 #[itV k s op a b m f va ln vc c n] w fun e w' => e = .returned (.bool (hasEB k op)) ∧ Below w.heap.size w w' := by
  by_cases hk : k = 2
  · subst hk
    rw [show hasEB 2 op = shE (shapeN op) from rfl]
    have hat := Hid.intro (at_parts op (w.alloc (.cells (itA 2 s op a b m f va ln vc c n) 33)) (hT.alloc _))
    generalize shapeN op = S at hat ⊢
    generalize decide (1 ≤ op ∧ op ≤ 43) = ok at hat
    have hb0 := below_alloc w (.cells (itA 2 s op a b m f va ln vc c n) 33)
    have hs0 : (w.alloc (.cells (itA 2 s op a b m f va ln vc c n) 33)).heap.size = w.heap.size + 1 := by simp
    clear hT
    by_cases h10 : S = 10
    · subst h10
      go_enter Tryz.func47, Tryz.ntmps47
      go_wp2_with (go_at_call 73; (with_reducible refine (hat.out).mono ?_); rintro e w1 ⟨⟨s1, b1, rfl⟩, hb1⟩)
      all_goals first | omega | skip
      go_ret
      exact ⟨rfl, (hb0.trans (hb1.mono (by omega))).alloc (by have := hb1.size; omega) _⟩
    by_cases h11 : S = 11
    · subst h11
      go_enter Tryz.func47, Tryz.ntmps47
      go_wp2_with (go_at_call 73; (with_reducible refine (hat.out).mono ?_); rintro e w1 ⟨⟨s1, b1, rfl⟩, hb1⟩)
      all_goals first | omega | skip
      go_ret
      exact ⟨rfl, (hb0.trans (hb1.mono (by omega))).alloc (by have := hb1.size; omega) _⟩
    by_cases h12 : S = 12
    · subst h12
      go_enter Tryz.func47, Tryz.ntmps47
      go_wp2_with (go_at_call 73; (with_reducible refine (hat.out).mono ?_); rintro e w1 ⟨⟨s1, b1, rfl⟩, hb1⟩)
      all_goals first | omega | skip
      go_ret
      exact ⟨rfl, (hb0.trans (hb1.mono (by omega))).alloc (by have := hb1.size; omega) _⟩
    by_cases h13 : S = 13
    · subst h13
      go_enter Tryz.func47, Tryz.ntmps47
      go_wp2_with (go_at_call 73; (with_reducible refine (hat.out).mono ?_); rintro e w1 ⟨⟨s1, b1, rfl⟩, hb1⟩)
      all_goals first | omega | skip
      go_ret
      exact ⟨rfl, (hb0.trans (hb1.mono (by omega))).alloc (by have := hb1.size; omega) _⟩
    have hno : shE S = false := by simp [shE, h10, h11, h12, h13]
    rw [hno]
    have g10 : (S == 10) = false := by simp [h10]
    have g11 : (S == 11) = false := by simp [h11]
    have g12 : (S == 12) = false := by simp [h12]
    have g13 : (S == 13) = false := by simp [h13]
    go_enter Tryz.func47, Tryz.ntmps47
    go_wp2_with (go_at_call 73; (with_reducible refine (hat.out).mono ?_); rintro e w1 ⟨⟨s1, b1, rfl⟩, hb1⟩)
    all_goals first | omega | skip
    go_ret
    exact ⟨rfl, (hb0.trans (hb1.mono (by omega))).alloc (by have := hb1.size; omega) _⟩
  · have hF : hasEB k op = decide (k = 6) := by simp [hasEB, hk]
    rw [hF]
    have hk' : (k == 2) = false := by simp [hk]
    by_cases h6 : k = 6
    · subst h6
      go_enter Tryz.func47, Tryz.ntmps47
      go_wp2
      all_goals first | omega | skip
      go_ret
      exact ⟨rfl, below_alloc w _⟩
    · have h6' : (k == 6) = false := by simp [h6]
      rw [show decide (k = 6) = false by simp [h6]]
      go_enter Tryz.func47, Tryz.ntmps47
      go_wp2
      all_goals first | omega | skip
      go_ret
      exact ⟨by first | rfl | simp [h6'], below_alloc w _⟩

/-- a name, by kind -/
def nameB (k : Int) (s : ByteArray) : Bool := if k = 1 then legB s else decide (s.toList = [])

theorem rightName_any (k : Int) (s : ByteArray) (hs : s.size ≤ 1100000) (op a b m f : Int) (va : Option Addr) (ln vc : Nat) (c n : Int) (w : World) :
    Calls Tryz.prog 24 #[itV k s op a b m f va ln vc c n] w fun e w' => e = .returned (.bool (nameB k s)) ∧ Below w.heap.size w w' := by
  have hb0 := below_alloc w (.cells (itA k s op a b m f va ln vc c n) 33)
  have hs0 : (w.alloc (.cells (itA k s op a b m f va ln vc c n) 33)).heap.size = w.heap.size + 1 := by simp
  by_cases hk : k = 1
  · subst hk
    rw [show nameB 1 s = legB s from rfl]
    have hl := Hid.intro (fun w1 => legal_any s hs w1)
    generalize legB s = lb at hl ⊢
    go_enter Tryz.func24, Tryz.ntmps24
    go_wp2_with (go_at_call 18; (with_reducible refine (hl.out _).mono ?_); rintro e w1 ⟨rfl, hb1⟩)
    all_goals first | omega | skip
    go_ret
    exact ⟨rfl, hb0.trans (hb1.mono (by omega))⟩
  · have hk' : (k == 1) = false := by simp [hk]
    have hF : nameB k s = decide (s.toList = []) := by simp [nameB, hk]
    rw [hF]
    go_enter Tryz.func24, Tryz.ntmps24
    go_wp2
    all_goals first | omega | skip
    go_ret
    refine ⟨?_, hb0⟩
    first | rfl | (congr 2; by_cases h : s.toList = [] <;> simp [h])

/-- an expression, by whether there must be one -/
def exprB (h : Bool) (ts : List Tm) (c : Int) : Bool := if h then rightF none ts else decide (ts.length = 0) && decide (c = 0)

theorem rightExpression_any (k : Int) (s : ByteArray) (op a b m f : Int) (va : Option Addr) (vc : Nat) (ts : List Tm) (c n : Int) (w : World) (hT : Tab w) (hL : TmLies w va ts) (hm : ts.length ≤ 9000000) (hN : ∀ t ∈ ts, t.name.length ≤ 1100000) :
    Calls Tryz.prog 26 #[itV k s op a b m f va ts.length vc c n] w fun e w' => e = .returned (.bool (exprB (hasEB k op) ts c)) ∧ Below w.heap.size w w' := by
  have hb0 := below_alloc w (.cells (itA k s op a b m f va ts.length vc c n) 33)
  have hs0 : (w.alloc (.cells (itA k s op a b m f va ts.length vc c n) 33)).heap.size = w.heap.size + 1 := by simp
  have hh := hasExpression_any k s op a b m f va ts.length vc c n (w.alloc (.cells (itA k s op a b m f va ts.length vc c n) 33)) (hT.alloc _)
  have hr := Hid.intro (fun w1 (h1 : Below w.heap.size w w1) => right_any va vc ts c w1 (hL.below h1 (Nat.le_refl _)) hm hN)
  have hrow := heap_alloc_new w (.cells (itA k s op a b m f va ts.length vc c n) 33)
  have hex : exprB (hasEB k op) ts c = if hasEB k op then rightF none ts else decide (ts.length = 0) && decide (c = 0) := rfl
  rw [hex]
  clear hex
  generalize rightF none ts = rf at hr ⊢
  generalize ts.length = ln at hh hr hrow hb0 hs0 ⊢
  generalize hasEB k op = hE at hh ⊢
  replace hh := Hid.intro hh
  have hst : Hid (∀ w1, Below (w.alloc (.cells (itA k s op a b m f va ln vc c n) 33)).heap.size (w.alloc (.cells (itA k s op a b m f va ln vc c n) 33)) w1 → w1.heap[w.heap.size]? = some (.cells (itA k s op a b m f va ln vc c n) 33 (0, 0)) ∧ Below w.heap.size w w1) := fun w1 h1 => ⟨by rw [h1.block _ (by omega)]; exact hrow, hb0.trans (h1.mono (by omega))⟩
  clear hrow hL hN hT hb0 hs0
  cases hE
  · by_cases hl : ln = 0
    · subst hl
      go_enter Tryz.func26, Tryz.ntmps26
      go_wp2_with (go_at_call 47; (with_reducible refine (hh.out).mono ?_); rintro e w1 ⟨rfl, hb1⟩; have hrw := hst.out w1 hb1; have c7 := (cell_blockT hrw.1 7).trans rfl; have c8 := (cell_blockT hrw.1 8).trans rfl; replace hrw := Hid.intro hrw)
      all_goals first | omega | skip
      go_ret
      refine ⟨?_, hrw.out.2⟩
      first | rfl | (by_cases h : c = 0 <;> simp [h])
    · have hl' : ¬ ((ln : Int) = 0) := by omega
      go_enter Tryz.func26, Tryz.ntmps26
      go_wp2_with (go_at_call 47; (with_reducible refine (hh.out).mono ?_); rintro e w1 ⟨rfl, hb1⟩; have hrw := hst.out w1 hb1; have c7 := (cell_blockT hrw.1 7).trans rfl; have c8 := (cell_blockT hrw.1 8).trans rfl; replace hrw := Hid.intro hrw)
      all_goals first | omega | skip
      go_ret
      refine ⟨?_, hrw.out.2⟩
      first | rfl | simp [hl]
  · go_enter Tryz.func26, Tryz.ntmps26
    go_wp2_with (first | (go_at_call 47; (with_reducible refine (hh.out).mono ?_); rintro e w1 ⟨rfl, hb1⟩; have hrw := hst.out w1 hb1; have c7 := (cell_blockT hrw.1 7).trans rfl; have c8 := (cell_blockT hrw.1 8).trans rfl; replace hrw := Hid.intro hrw) | (go_at_call 50; (with_reducible refine (hr.out _ hrw.out.2).mono ?_); rintro e w2 ⟨rfl, hb2⟩))
    all_goals first | omega | skip
    go_ret
    exact ⟨rfl, hrw.out.2.trans (hb2.mono hrw.out.2.size)⟩

theorem two_rows' (w : World) (A C : Array Value) (T1 T2 : TypeId) : ((w.alloc (.cells A T1)).alloc (.cells C T2)).heap[w.heap.size]? = some (.cells A T1 (0, 0)) ∧ ((w.alloc (.cells A T1)).alloc (.cells C T2)).heap[w.heap.size + 1]? = some (.cells C T2 (0, 0)) := by
  have hs : (w.alloc (.cells A T1)).heap.size = w.heap.size + 1 := by simp
  refine ⟨?_, ?_⟩
  · rw [Below.heap_alloc _ _ _ (by omega)]
    exact heap_alloc_new w _
  · rw [← hs]
    exact heap_alloc_new _ _

/-- an instruction, by kind -/
def instB (k op a b m f : Int) : Bool :=
  if k = 2 then decide (f = 0) && !(decide (m ≠ 0) && shE (shapeN op)) && decide (checkN op a b m (if spansB (shapeN op) then 1 else 0) = 0)
  else decide (op = 0 ∧ a = 0 ∧ b = 0 ∧ m = 0 ∧ f = 0)

set_option maxHeartbeats 1000000 in
theorem rightInst_any (k : Int) (s : ByteArray) (op a b m f : Int) (va : Option Addr) (ln vc : Nat) (c n : Int) (w : World) (hT : Tab w) (hm : -2147483648 ≤ m ∧ m ≤ 2147483647) :
    Calls Tryz.prog 25 #[itV k s op a b m f va ln vc c n] w fun e w' => e = .returned (.bool (instB k op a b m f)) ∧ Below w.heap.size w w' := by
  have hb0 : Below w.heap.size w ((w.alloc (.cells (itA k s op a b m f va ln vc c n) 33)).alloc (.cells #[.int .i64 op, .int .i64 a, .int .i64 b, .int .i32 m, .int .i64 f] 27)) := (below_alloc w _).alloc (by simp) _
  have hs0 : ((w.alloc (.cells (itA k s op a b m f va ln vc c n) 33)).alloc (.cells #[.int .i64 op, .int .i64 a, .int .i64 b, .int .i32 m, .int .i64 f] 27)).heap.size = w.heap.size + 2 := by simp
  by_cases hk : k = 2
  · subst hk
    have hT0 : Tab ((w.alloc (.cells (itA 2 s op a b m f va ln vc c n) 33)).alloc (.cells #[.int .i64 op, .int .i64 a, .int .i64 b, .int .i32 m, .int .i64 f] 27)) := (hT.alloc _).alloc _
    have h47 := hasExpression_any 2 s op a b m f va ln vc c n _ hT0
    rw [show hasEB 2 op = shE (shapeN op) from rfl] at h47
    have h48 := fun w1 h1 => spansOp_any op w1 h1
    have hF : instB 2 op a b m f = (decide (f = 0) && !(decide (m ≠ 0) && shE (shapeN op)) && decide (checkN op a b m (if spansB (shapeN op) then 1 else 0) = 0)) := rfl
    rw [hF]
    have hchk : Hid (∀ (fm : Int) w1, Tab w1 → Calls Tryz.prog 49 #[.agg #[.int .i64 op, .int .i64 a, .int .i64 b, .int .i32 m, .int .i64 fm]] w1 fun e w' => e = .returned (.int .i64 (checkN op a b m fm)) ∧ Below w1.heap.size w1 w') := fun fm w1 h1 => check_any op a b m fm w1 h1 hm
    clear hF
    generalize shE (shapeN op) = se at h47 ⊢
    generalize spansB (shapeN op) = sp at h48 ⊢
    replace h47 := Hid.intro h47
    replace h48 := Hid.intro h48
    have htr := (two_rows' w (itA 2 s op a b m f va ln vc c n) #[.int .i64 op, .int .i64 a, .int .i64 b, .int .i32 m, .int .i64 f] 33 27)
    have hkeep : Hid (∀ w1, Below ((w.alloc (.cells (itA 2 s op a b m f va ln vc c n) 33)).alloc (.cells #[.int .i64 op, .int .i64 a, .int .i64 b, .int .i32 m, .int .i64 f] 27)).heap.size ((w.alloc (.cells (itA 2 s op a b m f va ln vc c n) 33)).alloc (.cells #[.int .i64 op, .int .i64 a, .int .i64 b, .int .i32 m, .int .i64 f] 27)) w1 → w1.heap[w.heap.size + 1]? = some (.cells #[.int .i64 op, .int .i64 a, .int .i64 b, .int .i32 m, .int .i64 f] 27 (0, 0)) ∧ Below w.heap.size w w1 ∧ Tab w1) := fun w1 h1 => ⟨by rw [h1.block _ (by omega)]; exact htr.2, hb0.trans (h1.mono (by omega)), hT0.below h1 hT0.size⟩
    replace hT0 := Hid.intro hT0
    have hsz2 := hT.size
    clear htr hm hT
    by_cases hf : f = 0
    · subst hf
      have hgo : ∀ (q : Bool), (decide ((0 : Int) = 0) && q && decide (checkN op a b m (if sp then 1 else 0) = 0)) = (q && decide (checkN op a b m (if sp then 1 else 0) = 0)) := fun q => by simp
      rw [hgo]
      clear hgo
      by_cases hmz : m = 0
      · subst hmz
        rw [show (!(decide ((0 : Int) ≠ 0) && se)) = true by simp, Bool.true_and]
        cases sp
        · simp only [Bool.false_eq_true, if_false]
          go_enter Tryz.func25, Tryz.ntmps25
          go_wp2_with (first | (go_at_call 48; (with_reducible refine (h48.out _ hT0.out).mono ?_); rintro e w2 ⟨rfl, hb2⟩; have hk2 := hkeep.out w2 hb2; have e0 := (cell_blockT hk2.1 0).trans rfl; have e1 := (cell_blockT hk2.1 1).trans rfl; have e2 := (cell_blockT hk2.1 2).trans rfl; have e3 := (cell_blockT hk2.1 3).trans rfl; have e4 := (cell_blockT hk2.1 4).trans rfl; have ef := frozen_of_row w2 (w.heap.size + 1) 4 _ 27 hk2.1; have hput := row_set hk2.1 4 (.int .i64 1); have hT3 := Hid.intro (hk2.2.2.grown hput.2 (by omega)); replace hput := Hid.intro hput; replace hk2 := Hid.intro hk2) | (go_at_call 49; (with_reducible refine (hchk.out 0 _ hk2.out.2.2).mono ?_); rintro e w4 ⟨rfl, hb4⟩))
          all_goals first | omega | skip
          go_ret
          refine ⟨?_, hk2.out.2.1.trans (hb4.mono hk2.out.2.1.size)⟩
          first | rfl | (by_cases hz : checkN op a b 0 0 = 0 <;> simp [hz])
        · simp only [if_true]
          go_enter Tryz.func25, Tryz.ntmps25
          go_wp2_with (first | (go_at_call 48; (with_reducible refine (h48.out _ hT0.out).mono ?_); rintro e w2 ⟨rfl, hb2⟩; have hk2 := hkeep.out w2 hb2; have e0 := (cell_blockT hk2.1 0).trans rfl; have e1 := (cell_blockT hk2.1 1).trans rfl; have e2 := (cell_blockT hk2.1 2).trans rfl; have e3 := (cell_blockT hk2.1 3).trans rfl; have e4 := (cell_blockT hk2.1 4).trans rfl; have ef := frozen_of_row w2 (w.heap.size + 1) 4 _ 27 hk2.1; have hput := row_set hk2.1 4 (.int .i64 1); have hT3 := Hid.intro (hk2.2.2.grown hput.2 (by omega)); replace hput := Hid.intro hput; replace hk2 := Hid.intro hk2) | (go_at_call 49; (with_reducible refine (hchk.out 1 _ hT3.out).mono ?_); rintro e w4 ⟨rfl, hb4⟩))
          all_goals first | omega | skip
          go_ret
          refine ⟨?_, (hk2.out.2.1.trans (below_of_grown hput.out.2 (by omega) hk2.out.2.1.size)).trans (hb4.mono (by have := hk2.out.2.1.size; have := hput.out.2.size; omega))⟩
          first | rfl | (by_cases hz : checkN op a b 0 1 = 0 <;> simp [hz])
      · have hm' : (m == 0) = false := by simp [hmz]
        rw [show decide (m ≠ 0) = true by simp [hmz], Bool.true_and]
        cases se
        · rw [Bool.not_false, Bool.true_and]
          cases sp
          · simp only [Bool.false_eq_true, if_false]
            go_enter Tryz.func25, Tryz.ntmps25
            go_wp2_with (first | (go_at_call 47; (with_reducible refine (h47.out).mono ?_); rintro e w1 ⟨rfl, hb1⟩; have hk1 := Hid.intro (hkeep.out w1 hb1); have d0 := (cell_blockT hk1.out.1 0).trans rfl) | (go_at_call 48; (with_reducible refine (h48.out _ hk1.out.2.2).mono ?_); rintro e w2 ⟨rfl, hb2⟩; have hk2 := hkeep.out w2 (hb1.trans (hb2.mono hb1.size)); have e0 := (cell_blockT hk2.1 0).trans rfl; have e1 := (cell_blockT hk2.1 1).trans rfl; have e2 := (cell_blockT hk2.1 2).trans rfl; have e3 := (cell_blockT hk2.1 3).trans rfl; have e4 := (cell_blockT hk2.1 4).trans rfl; have ef := frozen_of_row w2 (w.heap.size + 1) 4 _ 27 hk2.1; have hput := row_set hk2.1 4 (.int .i64 1); have hT3 := Hid.intro (hk2.2.2.grown hput.2 (by omega)); replace hput := Hid.intro hput; replace hk2 := Hid.intro hk2) | (go_at_call 49; (with_reducible refine (hchk.out 0 _ hk2.out.2.2).mono ?_); rintro e w4 ⟨rfl, hb4⟩))
            all_goals first | omega | skip
            go_ret
            refine ⟨?_, hk2.out.2.1.trans (hb4.mono hk2.out.2.1.size)⟩
            first | rfl | (by_cases hz : checkN op a b m 0 = 0 <;> simp [hz])
          · simp only [if_true]
            go_enter Tryz.func25, Tryz.ntmps25
            go_wp2_with (first | (go_at_call 47; (with_reducible refine (h47.out).mono ?_); rintro e w1 ⟨rfl, hb1⟩; have hk1 := Hid.intro (hkeep.out w1 hb1); have d0 := (cell_blockT hk1.out.1 0).trans rfl) | (go_at_call 48; (with_reducible refine (h48.out _ hk1.out.2.2).mono ?_); rintro e w2 ⟨rfl, hb2⟩; have hk2 := hkeep.out w2 (hb1.trans (hb2.mono hb1.size)); have e0 := (cell_blockT hk2.1 0).trans rfl; have e1 := (cell_blockT hk2.1 1).trans rfl; have e2 := (cell_blockT hk2.1 2).trans rfl; have e3 := (cell_blockT hk2.1 3).trans rfl; have e4 := (cell_blockT hk2.1 4).trans rfl; have ef := frozen_of_row w2 (w.heap.size + 1) 4 _ 27 hk2.1; have hput := row_set hk2.1 4 (.int .i64 1); have hT3 := Hid.intro (hk2.2.2.grown hput.2 (by omega)); replace hput := Hid.intro hput; replace hk2 := Hid.intro hk2) | (go_at_call 49; (with_reducible refine (hchk.out 1 _ hT3.out).mono ?_); rintro e w4 ⟨rfl, hb4⟩))
            all_goals first | omega | skip
            go_ret
            refine ⟨?_, (hk2.out.2.1.trans (below_of_grown hput.out.2 (by omega) hk2.out.2.1.size)).trans (hb4.mono (by have := hk2.out.2.1.size; have := hput.out.2.size; omega))⟩
            first | rfl | (by_cases hz : checkN op a b m 1 = 0 <;> simp [hz])
        · rw [Bool.not_true, Bool.false_and]
          go_enter Tryz.func25, Tryz.ntmps25
          go_wp2_with (first | (go_at_call 47; (with_reducible refine (h47.out).mono ?_); rintro e w1 ⟨rfl, hb1⟩; have hk1 := Hid.intro (hkeep.out w1 hb1); have d0 := (cell_blockT hk1.out.1 0).trans rfl))
          all_goals first | omega | skip
          go_ret
          exact ⟨rfl, hk1.out.2.1⟩
    · have hf' : (f == 0) = false := by simp [hf]
      rw [show decide (f = 0) = false by simp [hf], Bool.false_and, Bool.false_and]
      go_enter Tryz.func25, Tryz.ntmps25
      go_wp2
      all_goals first | omega | skip
      go_ret
      exact ⟨rfl, hb0⟩
  · have hk' : (k == 2) = false := by simp [hk]
    have hF : instB k op a b m f = decide (op = 0 ∧ a = 0 ∧ b = 0 ∧ m = 0 ∧ f = 0) := by simp [instB, hk]
    rw [hF]
    clear hs0
    go_enter Tryz.func25, Tryz.ntmps25
    go_wp2
    all_goals first | omega | skip
    all_goals
      go_ret
      exact ⟨by simp_all, (below_alloc w _).alloc (by simp) _⟩

end Go.Proofs.YtlkmegchaeokgaaGreatDoor
namespace Go.Proofs.YtlkmegchaeokgaaGreatDoor
open Go.ChangeShapes Go.WideShapes Go.ChangeAt Go.RowKit
set_option linter.unusedVariables false
set_option maxRecDepth 100000

def rightN (sec : Int) (ok : Bool) : Int := if sec ≠ 0 ∧ sec ≠ 1 then 1 else if ok then 0 else 31

/-- is an item right there? -/
def okB (k : Int) (s : ByteArray) (op a b m f : Int) (ts : List Tm) (c n sec : Int) : Bool := standsB k sec && (nameB k s && (instB k op a b m f && (exprB (hasEB k op) ts c && numOfB k n)))

/-- the item's box, while Right runs -/
structure RI (w : World) (A : Array Value) (wr : World) : Prop where
  bel : Below w.heap.size w wr
  row : wr.heap[w.heap.size]? = some (.cells A 33 (0, 0))
  tab : Tab wr

theorem RI.below {w : World} {A : Array Value} {wr w' : World} (h : RI w A wr) (hb : Below wr.heap.size wr w') : RI w A w' :=
  ⟨h.bel.trans (hb.mono h.bel.size), by rw [hb.block _ (blk_lt h.row)]; exact h.row, h.tab.below hb h.tab.size⟩

theorem rowIt {w : World} {g : Nat} {v0 v1 v2 v3 v4 v5 v6 v7 v8 v9 : Value} (h : w.heap[g]? = some (.cells #[v0, v1, v2, v3, v4, v5, v6, v7, v8, v9] 33 (0, 0))) : w.cell? ⟨g, 0, none⟩ = some v0 ∧ w.cell? ⟨g, 1, none⟩ = some v1 ∧ w.cell? ⟨g, 2, none⟩ = some v2 ∧ w.cell? ⟨g, 3, none⟩ = some v3 ∧ w.cell? ⟨g, 4, none⟩ = some v4 ∧ w.cell? ⟨g, 5, none⟩ = some v5 ∧ w.cell? ⟨g, 6, none⟩ = some v6 ∧ w.cell? ⟨g, 7, none⟩ = some v7 ∧ w.cell? ⟨g, 8, none⟩ = some v8 ∧ w.cell? ⟨g, 9, none⟩ = some v9 :=
  ⟨(cell_blockT h 0).trans rfl, (cell_blockT h 1).trans rfl, (cell_blockT h 2).trans rfl, (cell_blockT h 3).trans rfl, (cell_blockT h 4).trans rfl, (cell_blockT h 5).trans rfl, (cell_blockT h 6).trans rfl, (cell_blockT h 7).trans rfl, (cell_blockT h 8).trans rfl, (cell_blockT h 9).trans rfl⟩

set_option maxHeartbeats 1000000 in
theorem itemRight_any (k : Int) (s : ByteArray) (hs : s.size ≤ 1100000) (op a b m f : Int) (hm : -2147483648 ≤ m ∧ m ≤ 2147483647) (va : Option Addr) (vc : Nat) (ts : List Tm) (c n sec : Int) (hn : -9223372036854775808 ≤ n ∧ n ≤ 9223372036854775807) (w : World) (hT : Tab w) (hL : TmLies w va ts) (hlen : ts.length ≤ 9000000) (hN : ∀ t ∈ ts, t.name.length ≤ 1100000) :
    Calls Tryz.prog 9 #[itV k s op a b m f va ts.length vc c n, .int .i64 sec] w fun e w' => e = .returned (.int .i64 (rightN sec (okB k s op a b m f ts c n sec))) ∧ Below w.heap.size w w' := by
  have h0 : RI w (itA k s op a b m f va ts.length vc c n) (w.alloc (.cells (itA k s op a b m f va ts.length vc c n) 33)) := ⟨below_alloc w _, heap_alloc_new w _, hT.alloc _⟩
  have h23 := fun w1 => stands_any k sec w1
  have h24 := fun w1 => rightName_any k s hs op a b m f va ts.length vc c n w1
  have h25 := fun w1 (h1 : RI w (itA k s op a b m f va ts.length vc c n) w1) => rightInst_any k s op a b m f va ts.length vc c n w1 h1.tab hm
  have h26 := fun w1 (h1 : RI w (itA k s op a b m f va ts.length vc c n) w1) => rightExpression_any k s op a b m f va vc ts c n w1 h1.tab (hL.below h1.bel (Nat.le_refl _)) hlen hN
  have h27 := fun w1 => isNumberOf_any k n w1 hn
  have hF : okB k s op a b m f ts c n sec = (standsB k sec && (nameB k s && (instB k op a b m f && (exprB (hasEB k op) ts c && numOfB k n)))) := rfl
  rw [hF]
  clear hF hT hL hN hs hm hn
  generalize standsB k sec = b1 at h23 ⊢
  generalize nameB k s = b2 at h24 ⊢
  generalize instB k op a b m f = b3 at h25 ⊢
  generalize exprB (hasEB k op) ts c = b4 at h26 ⊢
  generalize numOfB k n = b5 at h27 ⊢
  generalize ts.length = ln at h0 h24 h25 h26 hlen ⊢
  replace h0 := Hid.intro h0
  replace h23 := Hid.intro h23
  replace h24 := Hid.intro h24
  replace h25 := Hid.intro h25
  replace h26 := Hid.intro h26
  replace h27 := Hid.intro h27
  clear hlen
  by_cases hsec : sec = 0 ∨ sec = 1
  · rw [show ∀ ok, rightN sec ok = if ok then 0 else 31 from fun ok => by unfold rightN; rw [if_neg (by omega)]]
    have key : ∀ (c1 : Bool), ((if (c1 : Bool) = true then (0 : Int) else 31) = if c1 then 0 else 31) := fun _ => rfl
    clear key
    rcases hsec with rfl | rfl
    all_goals
      cases b1
      · go_enter Tryz.func9, Tryz.ntmps9
        go_wp2_with (first
          | (go_at_call 23; (with_reducible refine (h23.out _).mono ?_); rintro e w1 ⟨rfl, rfl⟩)
          | (go_at_call 24; (with_reducible refine (h24.out _).mono ?_); rintro e w2 ⟨rfl, hb2⟩; have h2 := Hid.intro (h0.out.below hb2); obtain ⟨q0, q1, q2, q3, q4, q5, q6, q7, q8, q9⟩ := rowIt h2.out.row)
          | (go_at_call 25; (with_reducible refine (h25.out _ h2.out).mono ?_); rintro e w3 ⟨rfl, hb3⟩; have h3 := Hid.intro (h2.out.below hb3); obtain ⟨p0, p1, p2, p3, p4, p5, p6, p7, p8, p9⟩ := rowIt h3.out.row)
          | (go_at_call 26; (with_reducible refine (h26.out _ h3.out).mono ?_); rintro e w4 ⟨rfl, hb4⟩; have h4 := Hid.intro (h3.out.below hb4); obtain ⟨r0, r1, r2, r3, r4, r5, r6, r7, r8, r9⟩ := rowIt h4.out.row)
          | (go_at_call 27; (with_reducible refine (h27.out _).mono ?_); rintro e w5 ⟨rfl, rfl⟩))
        all_goals first | omega | skip
        go_ret
        exact ⟨rfl, h0.out.bel⟩
      · cases b2
        · go_enter Tryz.func9, Tryz.ntmps9
          go_wp2_with (first
            | (go_at_call 23; (with_reducible refine (h23.out _).mono ?_); rintro e w1 ⟨rfl, rfl⟩)
            | (go_at_call 24; (with_reducible refine (h24.out _).mono ?_); rintro e w2 ⟨rfl, hb2⟩; have h2 := Hid.intro (h0.out.below hb2); obtain ⟨q0, q1, q2, q3, q4, q5, q6, q7, q8, q9⟩ := rowIt h2.out.row)
            | (go_at_call 25; (with_reducible refine (h25.out _ h2.out).mono ?_); rintro e w3 ⟨rfl, hb3⟩; have h3 := Hid.intro (h2.out.below hb3); obtain ⟨p0, p1, p2, p3, p4, p5, p6, p7, p8, p9⟩ := rowIt h3.out.row)
            | (go_at_call 26; (with_reducible refine (h26.out _ h3.out).mono ?_); rintro e w4 ⟨rfl, hb4⟩; have h4 := Hid.intro (h3.out.below hb4); obtain ⟨r0, r1, r2, r3, r4, r5, r6, r7, r8, r9⟩ := rowIt h4.out.row)
            | (go_at_call 27; (with_reducible refine (h27.out _).mono ?_); rintro e w5 ⟨rfl, rfl⟩))
          all_goals first | omega | skip
          go_ret
          exact ⟨rfl, h2.out.bel⟩
        · cases b3
          · go_enter Tryz.func9, Tryz.ntmps9
            go_wp2_with (first
              | (go_at_call 23; (with_reducible refine (h23.out _).mono ?_); rintro e w1 ⟨rfl, rfl⟩)
              | (go_at_call 24; (with_reducible refine (h24.out _).mono ?_); rintro e w2 ⟨rfl, hb2⟩; have h2 := Hid.intro (h0.out.below hb2); obtain ⟨q0, q1, q2, q3, q4, q5, q6, q7, q8, q9⟩ := rowIt h2.out.row)
              | (go_at_call 25; (with_reducible refine (h25.out _ h2.out).mono ?_); rintro e w3 ⟨rfl, hb3⟩; have h3 := Hid.intro (h2.out.below hb3); obtain ⟨p0, p1, p2, p3, p4, p5, p6, p7, p8, p9⟩ := rowIt h3.out.row)
              | (go_at_call 26; (with_reducible refine (h26.out _ h3.out).mono ?_); rintro e w4 ⟨rfl, hb4⟩; have h4 := Hid.intro (h3.out.below hb4); obtain ⟨r0, r1, r2, r3, r4, r5, r6, r7, r8, r9⟩ := rowIt h4.out.row)
              | (go_at_call 27; (with_reducible refine (h27.out _).mono ?_); rintro e w5 ⟨rfl, rfl⟩))
            all_goals first | omega | skip
            go_ret
            exact ⟨rfl, h3.out.bel⟩
          · cases b4
            · go_enter Tryz.func9, Tryz.ntmps9
              go_wp2_with (first
                | (go_at_call 23; (with_reducible refine (h23.out _).mono ?_); rintro e w1 ⟨rfl, rfl⟩)
                | (go_at_call 24; (with_reducible refine (h24.out _).mono ?_); rintro e w2 ⟨rfl, hb2⟩; have h2 := Hid.intro (h0.out.below hb2); obtain ⟨q0, q1, q2, q3, q4, q5, q6, q7, q8, q9⟩ := rowIt h2.out.row)
                | (go_at_call 25; (with_reducible refine (h25.out _ h2.out).mono ?_); rintro e w3 ⟨rfl, hb3⟩; have h3 := Hid.intro (h2.out.below hb3); obtain ⟨p0, p1, p2, p3, p4, p5, p6, p7, p8, p9⟩ := rowIt h3.out.row)
                | (go_at_call 26; (with_reducible refine (h26.out _ h3.out).mono ?_); rintro e w4 ⟨rfl, hb4⟩; have h4 := Hid.intro (h3.out.below hb4); obtain ⟨r0, r1, r2, r3, r4, r5, r6, r7, r8, r9⟩ := rowIt h4.out.row)
                | (go_at_call 27; (with_reducible refine (h27.out _).mono ?_); rintro e w5 ⟨rfl, rfl⟩))
              all_goals first | omega | skip
              go_ret
              exact ⟨rfl, h4.out.bel⟩
            · cases b5
              · go_enter Tryz.func9, Tryz.ntmps9
                go_wp2_with (first
                  | (go_at_call 23; (with_reducible refine (h23.out _).mono ?_); rintro e w1 ⟨rfl, rfl⟩)
                  | (go_at_call 24; (with_reducible refine (h24.out _).mono ?_); rintro e w2 ⟨rfl, hb2⟩; have h2 := Hid.intro (h0.out.below hb2); obtain ⟨q0, q1, q2, q3, q4, q5, q6, q7, q8, q9⟩ := rowIt h2.out.row)
                  | (go_at_call 25; (with_reducible refine (h25.out _ h2.out).mono ?_); rintro e w3 ⟨rfl, hb3⟩; have h3 := Hid.intro (h2.out.below hb3); obtain ⟨p0, p1, p2, p3, p4, p5, p6, p7, p8, p9⟩ := rowIt h3.out.row)
                  | (go_at_call 26; (with_reducible refine (h26.out _ h3.out).mono ?_); rintro e w4 ⟨rfl, hb4⟩; have h4 := Hid.intro (h3.out.below hb4); obtain ⟨r0, r1, r2, r3, r4, r5, r6, r7, r8, r9⟩ := rowIt h4.out.row)
                  | (go_at_call 27; (with_reducible refine (h27.out _).mono ?_); rintro e w5 ⟨rfl, rfl⟩))
                all_goals first | omega | skip
                go_ret
                exact ⟨rfl, h4.out.bel⟩
              · go_enter Tryz.func9, Tryz.ntmps9
                go_wp2_with (first
                  | (go_at_call 23; (with_reducible refine (h23.out _).mono ?_); rintro e w1 ⟨rfl, rfl⟩)
                  | (go_at_call 24; (with_reducible refine (h24.out _).mono ?_); rintro e w2 ⟨rfl, hb2⟩; have h2 := Hid.intro (h0.out.below hb2); obtain ⟨q0, q1, q2, q3, q4, q5, q6, q7, q8, q9⟩ := rowIt h2.out.row)
                  | (go_at_call 25; (with_reducible refine (h25.out _ h2.out).mono ?_); rintro e w3 ⟨rfl, hb3⟩; have h3 := Hid.intro (h2.out.below hb3); obtain ⟨p0, p1, p2, p3, p4, p5, p6, p7, p8, p9⟩ := rowIt h3.out.row)
                  | (go_at_call 26; (with_reducible refine (h26.out _ h3.out).mono ?_); rintro e w4 ⟨rfl, hb4⟩; have h4 := Hid.intro (h3.out.below hb4); obtain ⟨r0, r1, r2, r3, r4, r5, r6, r7, r8, r9⟩ := rowIt h4.out.row)
                  | (go_at_call 27; (with_reducible refine (h27.out _).mono ?_); rintro e w5 ⟨rfl, rfl⟩))
                all_goals first | omega | skip
                go_ret
                exact ⟨rfl, h4.out.bel⟩
  · rw [show ∀ ok, rightN sec ok = 1 from fun ok => by unfold rightN; rw [if_pos (by omega)]]
    have n0 : ¬ sec = 0 := fun h => hsec (.inl h)
    have n1 : ¬ sec = 1 := fun h => hsec (.inr h)
    have s0 : (sec == 0) = false := by simp [n0]
    have s1 : (sec == 1) = false := by simp [n1]
    have b0 : (sec != 0) = true := by simp [n0]
    have b1 : (sec != 1) = true := by simp [n1]
    clear hsec
    go_enter Tryz.func9, Tryz.ntmps9
    go_wp2
    all_goals first | omega | skip
    go_ret
    exact ⟨rfl, h0.out.bel⟩

end Go.Proofs.YtlkmegchaeokgaaGreatDoor
