/- item's Right: its parts. -/
import Derived.Test.YtmndccbeddaphaaGreatDoorOwn
/- item's Read of an operation's line. -/
namespace Go.Proofs.YtmndccbeddaphaaGreatDoor
open Go.ChangeShapes Go.WideShapes Go.ChangeAt Go.RowKit
set_option linter.unusedVariables false
set_option maxRecDepth 100000
theorem blk_lt {w : World} {g : Nat} {o : Obj} (h : w.heap[g]? = some o) : g < w.heap.size := (Array.getElem?_eq_some_iff.1 h).1
end Go.Proofs.YtmndccbeddaphaaGreatDoor
namespace Go.Proofs.YtmndccbeddaphaaGreatDoor
open Go.ChangeShapes Go.WideShapes Go.ChangeAt Go.RowKit
set_option linter.unusedVariables false
set_option maxRecDepth 100000
abbrev itA (k : Int) (s : ByteArray) (op a b m f : Int) (va : Option Addr) (ln vc : Nat) (c n : Int) : Array Value := #[.int .i64 k, .string s, .int .i64 op, .int .i64 a, .int .i64 b, .int .i32 m, .int .i64 f, .slice va ln vc, .int .u32 c, .int .i64 n]
abbrev itV (k : Int) (s : ByteArray) (op a b m f : Int) (va : Option Addr) (ln vc : Nat) (c n : Int) : Value := .agg (itA k s op a b m f va ln vc c n)
def shE (S : Int) : Bool := S == 10 || S == 11 || S == 12 || S == 13
def hasEB (k op : Int) : Bool := if k = 2 then shE (shapeN op) else decide (k = 6)
theorem hasExpression_any (k : Int) (s : ByteArray) (op a b m f : Int) (va : Option Addr) (ln vc : Nat) (c n : Int) (w : World) (hT : Tab w) :
    Calls Tryz.prog 145 #[itV k s op a b m f va ln vc c n] w fun e w' => e = .returned (.bool (hasEB k op)) ∧ Below w.heap.size w w' := by
  by_cases hk : k = 2
  · subst hk
    rw [show hasEB 2 op = shE (shapeN op) from rfl]
    have hat := Hid.intro (at_parts op (w.alloc (.cells (itA 2 s op a b m f va ln vc c n) 86)) (hT.alloc _))
    generalize shapeN op = S at hat ⊢
    generalize decide (1 ≤ op ∧ op ≤ 43) = ok at hat
    have hb0 := below_alloc w (.cells (itA 2 s op a b m f va ln vc c n) 86)
    have hs0 : (w.alloc (.cells (itA 2 s op a b m f va ln vc c n) 86)).heap.size = w.heap.size + 1 := by simp
    clear hT
    by_cases h10 : S = 10
    · subst h10
      go_enter Tryz.func145, Tryz.ntmps145
      go_wp2_with (go_at_call 170; (with_reducible refine (hat.out).mono ?_); rintro e w1 ⟨⟨s1, b1, rfl⟩, hb1⟩)
      all_goals first | omega | skip
      go_ret
      exact ⟨rfl, (hb0.trans (hb1.mono (by omega))).alloc (by have := hb1.size; omega) _⟩
    by_cases h11 : S = 11
    · subst h11
      go_enter Tryz.func145, Tryz.ntmps145
      go_wp2_with (go_at_call 170; (with_reducible refine (hat.out).mono ?_); rintro e w1 ⟨⟨s1, b1, rfl⟩, hb1⟩)
      all_goals first | omega | skip
      go_ret
      exact ⟨rfl, (hb0.trans (hb1.mono (by omega))).alloc (by have := hb1.size; omega) _⟩
    by_cases h12 : S = 12
    · subst h12
      go_enter Tryz.func145, Tryz.ntmps145
      go_wp2_with (go_at_call 170; (with_reducible refine (hat.out).mono ?_); rintro e w1 ⟨⟨s1, b1, rfl⟩, hb1⟩)
      all_goals first | omega | skip
      go_ret
      exact ⟨rfl, (hb0.trans (hb1.mono (by omega))).alloc (by have := hb1.size; omega) _⟩
    by_cases h13 : S = 13
    · subst h13
      go_enter Tryz.func145, Tryz.ntmps145
      go_wp2_with (go_at_call 170; (with_reducible refine (hat.out).mono ?_); rintro e w1 ⟨⟨s1, b1, rfl⟩, hb1⟩)
      all_goals first | omega | skip
      go_ret
      exact ⟨rfl, (hb0.trans (hb1.mono (by omega))).alloc (by have := hb1.size; omega) _⟩
    have hno : shE S = false := by simp [shE, h10, h11, h12, h13]
    rw [hno]
    have g10 : (S == 10) = false := by simp [h10]
    have g11 : (S == 11) = false := by simp [h11]
    have g12 : (S == 12) = false := by simp [h12]
    have g13 : (S == 13) = false := by simp [h13]
    go_enter Tryz.func145, Tryz.ntmps145
    go_wp2_with (go_at_call 170; (with_reducible refine (hat.out).mono ?_); rintro e w1 ⟨⟨s1, b1, rfl⟩, hb1⟩)
    all_goals first | omega | skip
    go_ret
    exact ⟨rfl, (hb0.trans (hb1.mono (by omega))).alloc (by have := hb1.size; omega) _⟩
  · have hF : hasEB k op = decide (k = 6) := by simp [hasEB, hk]
    rw [hF]
    have hk' : (k == 2) = false := by simp [hk]
    by_cases h6 : k = 6
    · subst h6
      go_enter Tryz.func145, Tryz.ntmps145
      go_wp2
      all_goals first | omega | skip
      go_ret
      exact ⟨rfl, below_alloc w _⟩
    · have h6' : (k == 6) = false := by simp [h6]
      rw [show decide (k = 6) = false by simp [h6]]
      go_enter Tryz.func145, Tryz.ntmps145
      go_wp2
      all_goals first | omega | skip
      go_ret
      exact ⟨by first | rfl | simp [h6'], below_alloc w _⟩
def nameB (k : Int) (s : ByteArray) : Bool := if k = 1 then legB s else decide (s.toList = [])
theorem rightName_any (k : Int) (s : ByteArray) (hs : s.size ≤ 1100000) (op a b m f : Int) (va : Option Addr) (ln vc : Nat) (c n : Int) (w : World) :
    Calls Tryz.prog 123 #[itV k s op a b m f va ln vc c n] w fun e w' => e = .returned (.bool (nameB k s)) ∧ Below w.heap.size w w' := by
  have hb0 := below_alloc w (.cells (itA k s op a b m f va ln vc c n) 86)
  have hs0 : (w.alloc (.cells (itA k s op a b m f va ln vc c n) 86)).heap.size = w.heap.size + 1 := by simp
  by_cases hk : k = 1
  · subst hk
    rw [show nameB 1 s = legB s from rfl]
    have hl := Hid.intro (fun w1 => legal_any s hs w1)
    generalize legB s = lb at hl ⊢
    go_enter Tryz.func123, Tryz.ntmps123
    go_wp2_with (go_at_call 102; (with_reducible refine (hl.out _).mono ?_); rintro e w1 ⟨rfl, hb1⟩)
    all_goals first | omega | skip
    go_ret
    exact ⟨rfl, hb0.trans (hb1.mono (by omega))⟩
  · have hk' : (k == 1) = false := by simp [hk]
    have hF : nameB k s = decide (s.toList = []) := by simp [nameB, hk]
    rw [hF]
    go_enter Tryz.func123, Tryz.ntmps123
    go_wp2
    all_goals first | omega | skip
    go_ret
    refine ⟨?_, hb0⟩
    first | rfl | (congr 2; by_cases h : s.toList = [] <;> simp [h])
def exprB (h : Bool) (ts : List Tm) (c : Int) : Bool := if h then rightF none ts else decide (ts.length = 0) && decide (c = 0)
theorem rightExpression_any (k : Int) (s : ByteArray) (op a b m f : Int) (va : Option Addr) (vc : Nat) (ts : List Tm) (c n : Int) (w : World) (hT : Tab w) (hL : TmLies w va ts) (hm : ts.length ≤ 9000000) (hN : ∀ t ∈ ts, t.name.length ≤ 1100000) :
    Calls Tryz.prog 125 #[itV k s op a b m f va ts.length vc c n] w fun e w' => e = .returned (.bool (exprB (hasEB k op) ts c)) ∧ Below w.heap.size w w' := by
  have hb0 := below_alloc w (.cells (itA k s op a b m f va ts.length vc c n) 86)
  have hs0 : (w.alloc (.cells (itA k s op a b m f va ts.length vc c n) 86)).heap.size = w.heap.size + 1 := by simp
  have hh := hasExpression_any k s op a b m f va ts.length vc c n (w.alloc (.cells (itA k s op a b m f va ts.length vc c n) 86)) (hT.alloc _)
  have hr := Hid.intro (fun w1 (h1 : Below w.heap.size w w1) => right_any va vc ts c w1 (hL.below h1 (Nat.le_refl _)) hm hN)
  have hrow := heap_alloc_new w (.cells (itA k s op a b m f va ts.length vc c n) 86)
  have hex : exprB (hasEB k op) ts c = if hasEB k op then rightF none ts else decide (ts.length = 0) && decide (c = 0) := rfl
  rw [hex]
  clear hex
  generalize rightF none ts = rf at hr ⊢
  generalize ts.length = ln at hh hr hrow hb0 hs0 ⊢
  generalize hasEB k op = hE at hh ⊢
  replace hh := Hid.intro hh
  have hst : Hid (∀ w1, Below (w.alloc (.cells (itA k s op a b m f va ln vc c n) 86)).heap.size (w.alloc (.cells (itA k s op a b m f va ln vc c n) 86)) w1 → w1.heap[w.heap.size]? = some (.cells (itA k s op a b m f va ln vc c n) 86 (0, 0)) ∧ Below w.heap.size w w1) := fun w1 h1 => ⟨by rw [h1.block _ (by omega)]; exact hrow, hb0.trans (h1.mono (by omega))⟩
  clear hrow hL hN hT hb0 hs0
  cases hE
  · by_cases hl : ln = 0
    · subst hl
      go_enter Tryz.func125, Tryz.ntmps125
      go_wp2_with (go_at_call 145; (with_reducible refine (hh.out).mono ?_); rintro e w1 ⟨rfl, hb1⟩; have hrw := hst.out w1 hb1; have c7 := (cell_blockT hrw.1 7).trans rfl; have c8 := (cell_blockT hrw.1 8).trans rfl; replace hrw := Hid.intro hrw)
      all_goals first | omega | skip
      go_ret
      refine ⟨?_, hrw.out.2⟩
      first | rfl | (by_cases h : c = 0 <;> simp [h])
    · have hl' : ¬ ((ln : Int) = 0) := by omega
      go_enter Tryz.func125, Tryz.ntmps125
      go_wp2_with (go_at_call 145; (with_reducible refine (hh.out).mono ?_); rintro e w1 ⟨rfl, hb1⟩; have hrw := hst.out w1 hb1; have c7 := (cell_blockT hrw.1 7).trans rfl; have c8 := (cell_blockT hrw.1 8).trans rfl; replace hrw := Hid.intro hrw)
      all_goals first | omega | skip
      go_ret
      refine ⟨?_, hrw.out.2⟩
      first | rfl | simp [hl]
  · go_enter Tryz.func125, Tryz.ntmps125
    go_wp2_with (first | (go_at_call 145; (with_reducible refine (hh.out).mono ?_); rintro e w1 ⟨rfl, hb1⟩; have hrw := hst.out w1 hb1; have c7 := (cell_blockT hrw.1 7).trans rfl; have c8 := (cell_blockT hrw.1 8).trans rfl; replace hrw := Hid.intro hrw) | (go_at_call 103; (with_reducible refine (hr.out _ hrw.out.2).mono ?_); rintro e w2 ⟨rfl, hb2⟩))
    all_goals first | omega | skip
    go_ret
    exact ⟨rfl, hrw.out.2.trans (hb2.mono hrw.out.2.size)⟩
theorem two_rows' (w : World) (A C : Array Value) (T1 T2 : TypeId) : ((w.alloc (.cells A T1)).alloc (.cells C T2)).heap[w.heap.size]? = some (.cells A T1 (0, 0)) ∧ ((w.alloc (.cells A T1)).alloc (.cells C T2)).heap[w.heap.size + 1]? = some (.cells C T2 (0, 0)) := by
  have hs : (w.alloc (.cells A T1)).heap.size = w.heap.size + 1 := by simp
  refine ⟨?_, ?_⟩
  · rw [Below.heap_alloc _ _ _ (by omega)]
    exact heap_alloc_new w _
  · rw [← hs]
    exact heap_alloc_new _ _
def instB (k op a b m f : Int) : Bool :=
  if k = 2 then decide (f = 0) && !(decide (m ≠ 0) && shE (shapeN op)) && decide (checkN op a b m (if spansB (shapeN op) then 1 else 0) = 0)
  else decide (op = 0 ∧ a = 0 ∧ b = 0 ∧ m = 0 ∧ f = 0)
set_option maxHeartbeats 1000000 in
theorem rightInst_any (k : Int) (s : ByteArray) (op a b m f : Int) (va : Option Addr) (ln vc : Nat) (c n : Int) (w : World) (hT : Tab w) (hm : -2147483648 ≤ m ∧ m ≤ 2147483647) :
    Calls Tryz.prog 124 #[itV k s op a b m f va ln vc c n] w fun e w' => e = .returned (.bool (instB k op a b m f)) ∧ Below w.heap.size w w' := by
  have hb0 : Below w.heap.size w ((w.alloc (.cells (itA k s op a b m f va ln vc c n) 86)).alloc (.cells #[.int .i64 op, .int .i64 a, .int .i64 b, .int .i32 m, .int .i64 f] 81)) := (below_alloc w _).alloc (by simp) _
  have hs0 : ((w.alloc (.cells (itA k s op a b m f va ln vc c n) 86)).alloc (.cells #[.int .i64 op, .int .i64 a, .int .i64 b, .int .i32 m, .int .i64 f] 81)).heap.size = w.heap.size + 2 := by simp
  by_cases hk : k = 2
  · subst hk
    have hT0 : Tab ((w.alloc (.cells (itA 2 s op a b m f va ln vc c n) 86)).alloc (.cells #[.int .i64 op, .int .i64 a, .int .i64 b, .int .i32 m, .int .i64 f] 81)) := (hT.alloc _).alloc _
    have h47 := hasExpression_any 2 s op a b m f va ln vc c n _ hT0
    rw [show hasEB 2 op = shE (shapeN op) from rfl] at h47
    have h48 := fun w1 h1 => spansOp_any op w1 h1
    have hF : instB 2 op a b m f = (decide (f = 0) && !(decide (m ≠ 0) && shE (shapeN op)) && decide (checkN op a b m (if spansB (shapeN op) then 1 else 0) = 0)) := rfl
    rw [hF]
    have hchk : Hid (∀ (fm : Int) w1, Tab w1 → Calls Tryz.prog 147 #[.agg #[.int .i64 op, .int .i64 a, .int .i64 b, .int .i32 m, .int .i64 fm]] w1 fun e w' => e = .returned (.int .i64 (checkN op a b m fm)) ∧ Below w1.heap.size w1 w') := fun fm w1 h1 => check_any op a b m fm w1 h1 hm
    clear hF
    generalize shE (shapeN op) = se at h47 ⊢
    generalize spansB (shapeN op) = sp at h48 ⊢
    replace h47 := Hid.intro h47
    replace h48 := Hid.intro h48
    have htr := (two_rows' w (itA 2 s op a b m f va ln vc c n) #[.int .i64 op, .int .i64 a, .int .i64 b, .int .i32 m, .int .i64 f] 86 81)
    have hkeep : Hid (∀ w1, Below ((w.alloc (.cells (itA 2 s op a b m f va ln vc c n) 86)).alloc (.cells #[.int .i64 op, .int .i64 a, .int .i64 b, .int .i32 m, .int .i64 f] 81)).heap.size ((w.alloc (.cells (itA 2 s op a b m f va ln vc c n) 86)).alloc (.cells #[.int .i64 op, .int .i64 a, .int .i64 b, .int .i32 m, .int .i64 f] 81)) w1 → w1.heap[w.heap.size + 1]? = some (.cells #[.int .i64 op, .int .i64 a, .int .i64 b, .int .i32 m, .int .i64 f] 81 (0, 0)) ∧ Below w.heap.size w w1 ∧ Tab w1) := fun w1 h1 => ⟨by rw [h1.block _ (by omega)]; exact htr.2, hb0.trans (h1.mono (by omega)), hT0.below h1 hT0.size⟩
    replace hT0 := Hid.intro hT0
    have hsz2 := hT.size
    clear htr hm hT
    by_cases hf : f = 0
    · subst hf
      have hgo : ∀ (q : Bool), (decide ((0 : Int) = 0) && q && decide (checkN op a b m (if sp then 1 else 0) = 0)) = (q && decide (checkN op a b m (if sp then 1 else 0) = 0)) := fun q => by simp
      rw [hgo]
      clear hgo
      by_cases hmz : m = 0
      · subst hmz
        rw [show (!(decide ((0 : Int) ≠ 0) && se)) = true by simp, Bool.true_and]
        cases sp
        · simp only [Bool.false_eq_true, if_false]
          go_enter Tryz.func124, Tryz.ntmps124
          go_wp2_with (first | (go_at_call 146; (with_reducible refine (h48.out _ hT0.out).mono ?_); rintro e w2 ⟨rfl, hb2⟩; have hk2 := hkeep.out w2 hb2; have e0 := (cell_blockT hk2.1 0).trans rfl; have e1 := (cell_blockT hk2.1 1).trans rfl; have e2 := (cell_blockT hk2.1 2).trans rfl; have e3 := (cell_blockT hk2.1 3).trans rfl; have e4 := (cell_blockT hk2.1 4).trans rfl; have ef := frozen_of_row w2 (w.heap.size + 1) 4 _ 81 hk2.1; have hput := row_set hk2.1 4 (.int .i64 1); have hT3 := Hid.intro (hk2.2.2.grown hput.2 (by omega)); replace hput := Hid.intro hput; replace hk2 := Hid.intro hk2) | (go_at_call 147; (with_reducible refine (hchk.out 0 _ hk2.out.2.2).mono ?_); rintro e w4 ⟨rfl, hb4⟩))
          all_goals first | omega | skip
          go_ret
          refine ⟨?_, hk2.out.2.1.trans (hb4.mono hk2.out.2.1.size)⟩
          first | rfl | (by_cases hz : checkN op a b 0 0 = 0 <;> simp [hz])
        · simp only [if_true]
          go_enter Tryz.func124, Tryz.ntmps124
          go_wp2_with (first | (go_at_call 146; (with_reducible refine (h48.out _ hT0.out).mono ?_); rintro e w2 ⟨rfl, hb2⟩; have hk2 := hkeep.out w2 hb2; have e0 := (cell_blockT hk2.1 0).trans rfl; have e1 := (cell_blockT hk2.1 1).trans rfl; have e2 := (cell_blockT hk2.1 2).trans rfl; have e3 := (cell_blockT hk2.1 3).trans rfl; have e4 := (cell_blockT hk2.1 4).trans rfl; have ef := frozen_of_row w2 (w.heap.size + 1) 4 _ 81 hk2.1; have hput := row_set hk2.1 4 (.int .i64 1); have hT3 := Hid.intro (hk2.2.2.grown hput.2 (by omega)); replace hput := Hid.intro hput; replace hk2 := Hid.intro hk2) | (go_at_call 147; (with_reducible refine (hchk.out 1 _ hT3.out).mono ?_); rintro e w4 ⟨rfl, hb4⟩))
          all_goals first | omega | skip
          go_ret
          refine ⟨?_, (hk2.out.2.1.trans (below_of_grown hput.out.2 (by omega) hk2.out.2.1.size)).trans (hb4.mono (by have := hk2.out.2.1.size; have := hput.out.2.size; omega))⟩
          first | rfl | (by_cases hz : checkN op a b 0 1 = 0 <;> simp [hz])
      · have hm' : (m == 0) = false := by simp [hmz]
        rw [show decide (m ≠ 0) = true by simp [hmz], Bool.true_and]
        cases se
        · rw [Bool.not_false, Bool.true_and]
          cases sp
          · simp only [Bool.false_eq_true, if_false]
            go_enter Tryz.func124, Tryz.ntmps124
            go_wp2_with (first | (go_at_call 145; (with_reducible refine (h47.out).mono ?_); rintro e w1 ⟨rfl, hb1⟩; have hk1 := Hid.intro (hkeep.out w1 hb1); have d0 := (cell_blockT hk1.out.1 0).trans rfl) | (go_at_call 146; (with_reducible refine (h48.out _ hk1.out.2.2).mono ?_); rintro e w2 ⟨rfl, hb2⟩; have hk2 := hkeep.out w2 (hb1.trans (hb2.mono hb1.size)); have e0 := (cell_blockT hk2.1 0).trans rfl; have e1 := (cell_blockT hk2.1 1).trans rfl; have e2 := (cell_blockT hk2.1 2).trans rfl; have e3 := (cell_blockT hk2.1 3).trans rfl; have e4 := (cell_blockT hk2.1 4).trans rfl; have ef := frozen_of_row w2 (w.heap.size + 1) 4 _ 81 hk2.1; have hput := row_set hk2.1 4 (.int .i64 1); have hT3 := Hid.intro (hk2.2.2.grown hput.2 (by omega)); replace hput := Hid.intro hput; replace hk2 := Hid.intro hk2) | (go_at_call 147; (with_reducible refine (hchk.out 0 _ hk2.out.2.2).mono ?_); rintro e w4 ⟨rfl, hb4⟩))
            all_goals first | omega | skip
            go_ret
            refine ⟨?_, hk2.out.2.1.trans (hb4.mono hk2.out.2.1.size)⟩
            first | rfl | (by_cases hz : checkN op a b m 0 = 0 <;> simp [hz])
          · simp only [if_true]
            go_enter Tryz.func124, Tryz.ntmps124
            go_wp2_with (first | (go_at_call 145; (with_reducible refine (h47.out).mono ?_); rintro e w1 ⟨rfl, hb1⟩; have hk1 := Hid.intro (hkeep.out w1 hb1); have d0 := (cell_blockT hk1.out.1 0).trans rfl) | (go_at_call 146; (with_reducible refine (h48.out _ hk1.out.2.2).mono ?_); rintro e w2 ⟨rfl, hb2⟩; have hk2 := hkeep.out w2 (hb1.trans (hb2.mono hb1.size)); have e0 := (cell_blockT hk2.1 0).trans rfl; have e1 := (cell_blockT hk2.1 1).trans rfl; have e2 := (cell_blockT hk2.1 2).trans rfl; have e3 := (cell_blockT hk2.1 3).trans rfl; have e4 := (cell_blockT hk2.1 4).trans rfl; have ef := frozen_of_row w2 (w.heap.size + 1) 4 _ 81 hk2.1; have hput := row_set hk2.1 4 (.int .i64 1); have hT3 := Hid.intro (hk2.2.2.grown hput.2 (by omega)); replace hput := Hid.intro hput; replace hk2 := Hid.intro hk2) | (go_at_call 147; (with_reducible refine (hchk.out 1 _ hT3.out).mono ?_); rintro e w4 ⟨rfl, hb4⟩))
            all_goals first | omega | skip
            go_ret
            refine ⟨?_, (hk2.out.2.1.trans (below_of_grown hput.out.2 (by omega) hk2.out.2.1.size)).trans (hb4.mono (by have := hk2.out.2.1.size; have := hput.out.2.size; omega))⟩
            first | rfl | (by_cases hz : checkN op a b m 1 = 0 <;> simp [hz])
        · rw [Bool.not_true, Bool.false_and]
          go_enter Tryz.func124, Tryz.ntmps124
          go_wp2_with (first | (go_at_call 145; (with_reducible refine (h47.out).mono ?_); rintro e w1 ⟨rfl, hb1⟩; have hk1 := Hid.intro (hkeep.out w1 hb1); have d0 := (cell_blockT hk1.out.1 0).trans rfl))
          all_goals first | omega | skip
          go_ret
          exact ⟨rfl, hk1.out.2.1⟩
    · have hf' : (f == 0) = false := by simp [hf]
      rw [show decide (f = 0) = false by simp [hf], Bool.false_and, Bool.false_and]
      go_enter Tryz.func124, Tryz.ntmps124
      go_wp2
      all_goals first | omega | skip
      go_ret
      exact ⟨rfl, hb0⟩
  · have hk' : (k == 2) = false := by simp [hk]
    have hF : instB k op a b m f = decide (op = 0 ∧ a = 0 ∧ b = 0 ∧ m = 0 ∧ f = 0) := by simp [instB, hk]
    rw [hF]
    clear hs0
    go_enter Tryz.func124, Tryz.ntmps124
    go_wp2
    all_goals first | omega | skip
    all_goals
      go_ret
      exact ⟨by simp_all, (below_alloc w _).alloc (by simp) _⟩
end Go.Proofs.YtmndccbeddaphaaGreatDoor
