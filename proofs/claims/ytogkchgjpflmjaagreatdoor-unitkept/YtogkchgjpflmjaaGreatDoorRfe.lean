/- unit's Refusal.Error; the law's refused. -/
import Derived.Test.YtogkchgjpflmjaaGreatDoorEr5
import Derived.Test.YtogkchgjpflmjaaGreatDoorIBase
import Derived.LaidLaws
import Derived.LaidHandle
import Derived.Test.YtogkchgjpflmjaaGreatDoorErn
import Derived.Test.YtogkchgjpflmjaaGreatDoorNum
import Derived.Test.YtogkchgjpflmjaaGreatDoorQuietB
import Derived.Sort.Grow
/- What the laid variables give a walk: errors.errorType, the two tables. -/
namespace Go.Proofs.YtogkchgjpflmjaaGreatDoor
open Go.ChangeShapes Go.WideShapes Go.ChangeAt Go.RowKit
set_option linter.unusedVariables false
set_option maxRecDepth 100000
theorem gEt : Tryz.prog.globalNamed "errors.errorType" = some 0 := by kernel_rfl
theorem gRt : (Tryz.prog.cutTypes.find? (·.1 == "internal/reflectlite.rtype")).map (·.2) = some 171 := by kernel_rfl
theorem gSize : Tryz.prog.types.size = 369 := by kernel_rfl
theorem gErr : ((List.range 369).filter fun t => Tryz.prog.rowNamed t [101, 114, 114, 111, 114]) = [28] := by kernel_rfl
abbrev laid9 : List (String × DataW Unit) := [("math/bits.deBruijn32tab", Rows.laid_math_bits_deBruijn32tab), ("math/bits.deBruijn64tab", Rows.laid_math_bits_deBruijn64tab), ("internal/strconv.uint64pow10", Rows.laid_internal_strconv_uint64pow10), ("errors.errorType", Rows.laid_errors_errorType), ("spandrel/isa.ops", Rows.laid_spandrel_isa_ops), ("spandrel/isa.shapes", Rows.laid_spandrel_isa_shapes)]
theorem errT_of_laid {W : World} (h : laidMetH Tryz.prog laid9 W) : ErrT W := by
  have h' : handlesMet Tryz.prog [("errors.errorType", Rows.laid_errors_errorType)] W := h.2
  obtain ⟨name, u, ty, e1, e2, e3, e4, e5⟩ := h' _ (List.mem_singleton.2 rfl)
  have en : name = [101, 114, 114, 111, 114] := (Option.some.inj e1).symm
  subst en
  obtain rfl := Option.some.inj (gRt.symm.trans e2)
  have hm : ty ∈ (List.range 369).filter fun t => Tryz.prog.rowNamed t [101, 114, 114, 111, 114] := List.mem_filter.2 ⟨List.mem_range.2 (by rw [← gSize]; exact e3), e4⟩
  rw [gErr] at hm
  obtain rfl := List.mem_singleton.1 hm
  have hh : typeHandle Tryz.prog 28 = .pointer (some ⟨7, 28, none⟩) := by kernel_rfl
  rw [hh] at e5
  simpa [ErrT] using World.var?_cell gEt e5 0
theorem tab_of_laid9 {W : World} (h : laidMetH Tryz.prog laid9 W) : Tab W := tab_of_laid h.1
end Go.Proofs.YtogkchgjpflmjaaGreatDoor
namespace Go.Proofs.YtogkchgjpflmjaaGreatDoor
open Go.ChangeShapes Go.WideShapes Go.ChangeAt Go.RowKit Go.Sort
set_option linter.unusedVariables false
set_option maxRecDepth 100000
abbrev powName : String := "internal/strconv.uint64pow10"
def Pow (w : World) : Prop := Lib.TabIs Tryz.prog w powName .u64 Lib.pow10Tab
theorem gPow : Tryz.prog.globalNamed powName = some 4 := by kernel_rfl
theorem Pow.lt {w : World} (h : Pow w) : 4 < w.heap.size := by
  unfold Pow Lib.TabIs World.var? at h
  simp only [gPow, Option.bind_some] at h
  apply Decidable.byContradiction
  intro hn
  rw [Array.getElem?_eq_none (by omega)] at h
  cases h
theorem Pow.below {w w' : World} {B : Nat} (h : Pow w) (hb : Below B w w') (hB : 4 < B) : Pow w' := by
  unfold Pow Lib.TabIs World.var? at *
  simp only [gPow, Option.bind_some] at h ⊢
  rw [hb.block 4 hB]
  exact h
theorem below_grow (w : World) (k : Nat) (os : Array Obj) : Below w.heap.size w (grow (w.drewN k) os) := by
  refine ⟨rfl, rfl, rfl, ?_, fun j hj => ?_⟩
  · simp [grow, World.drewN]
  · rw [heap_grow_old _ _ (by simpa [World.drewN] using hj)]
    rfl
abbrev itoaS (n : Nat) : ByteArray := ⟨(Lib.itoa (n : Int)).toArray⟩
theorem itoa_any (n : Nat) (hn : n ≤ 1000000) (w : World) (hP : Pow w) : Calls Tryz.prog 84 #[.int .i64 (n : Int)] w fun e w' => e = .returned (.string (itoaS n)) ∧ Below w.heap.size w w' := by
  refine (Any.strconv_Itoa Tryz.laysItoa (n : Int) (by omega) (by omega) w hP).mono ?_
  rintro e w' ⟨rfl, k, os, rfl⟩
  exact ⟨rfl, below_grow w k os⟩
theorem decDigits_len (u : Nat) : (Lib.decDigits u).length ≤ u + 1 := by
  induction u using Nat.strongRecOn with
  | ind u ih =>
    rw [Lib.decDigits]
    split
    · simp
    · have := ih (u / 10) (by omega)
      simp
      omega
theorem itoa_len (n : Nat) (hn : n ≤ 1000000) : (itoaS n).size ≤ 1000001 := by
  show (Lib.itoa (n : Int)).toArray.size ≤ _
  have := decDigits_len n
  unfold Lib.itoa
  rw [if_neg (by omega)]
  simp
  omega
def refS (n k : Nat) : ByteArray := ⟨#[108, 105, 110, 101, 32]⟩ ++ itoaS n ++ ⟨#[58, 32]⟩ ++ ernS k
theorem refS_ne (n k : Nat) : ((refS n k).toList == []) = false := by
  have h : 5 ≤ (refS n k).size := by
    unfold refS
    rw [ByteArray.size_append, ByteArray.size_append, ByteArray.size_append]
    show 5 ≤ 5 + _ + _ + _
    omega
  cases hl : (refS n k).toList with
  | cons a l => rfl
  | nil =>
    have h2 : (refS n k).toList.length = (refS n k).size := by
      rw [← bs_length]
      unfold bs
      rw [← str_toList (refS n k).data.toList]
      rfl
    rw [hl] at h2
    simp at h2
    omega
set_option maxHeartbeats 4000000 in
theorem refError_any (q n k : Nat) (hn : n ≤ 1000000) (hk : k ≤ 99) (w : World) (hP : Pow w) (hq : w.heap[q]? = some (.cells #[.int .i64 (n : Int), .int .i64 (k : Int)] 55 (0, 0))) :
    Calls Tryz.prog 46 #[.pointer (some ⟨q, 0, none⟩)] w fun e w' => e = .returned (.string (refS n k)) ∧ Below w.heap.size w w' := by
  have hlt := blk_lt hq
  have hPs := hP.lt
  have c0 : ∀ p : BelowOf w, p.wd.cell? ⟨q, 0, none⟩ = some (.int .i64 (n : Int)) := fun p => p.cell (a := ⟨q, 0, none⟩) hlt ((cell_blockT hq 0).trans rfl)
  have c1 : ∀ p : BelowOf w, p.wd.cell? ⟨q, 1, none⟩ = some (.int .i64 (k : Int)) := fun p => p.cell (a := ⟨q, 1, none⟩) hlt ((cell_blockT hq 1).trans rfl)
  have h84 := Hid.intro (fun p : BelowOf w => itoa_any n hn p.wd (hP.below p.h hPs))
  have h85 := Hid.intro (fun p : BelowOf w => ern_any k hk p.wd)
  have hi := itoa_len n hn
  have hes := ernS_size k
  have e5 : (⟨#[108, 105, 110, 101, 32]⟩ : ByteArray).size = 5 := rfl
  have e2 : (⟨#[58, 32]⟩ : ByteArray).size = 2 := rfl
  have a1 : ∀ W : World, (Op.stringOp .add ⟨#[108, 105, 110, 101, 32]⟩ (itoaS n)).run Tryz.prog W = .ok (.string (⟨#[108, 105, 110, 101, 32]⟩ ++ itoaS n)) W := fun W => run_string_add_sum W _ _ (by omega)
  have a2 : ∀ W : World, (Op.stringOp .add (⟨#[108, 105, 110, 101, 32]⟩ ++ itoaS n) ⟨#[58, 32]⟩).run Tryz.prog W = .ok (.string (⟨#[108, 105, 110, 101, 32]⟩ ++ itoaS n ++ ⟨#[58, 32]⟩)) W := fun W => run_string_add_sum W _ _ (by rw [ByteArray.size_append]; omega)
  have a3 : ∀ W : World, (Op.stringOp .add (⟨#[108, 105, 110, 101, 32]⟩ ++ itoaS n ++ ⟨#[58, 32]⟩) (ernS k)).run Tryz.prog W = .ok (.string (refS n k)) W := fun W => run_string_add_sum W _ _ (by rw [ByteArray.size_append, ByteArray.size_append]; omega)
  clear hq hP hi hes e5 e2 hn hk
  generalize ernS k = ES at *
  generalize itoaS n = IS at *
  generalize refS n k = RS at *
  go_enter Tryz.func46, Tryz.ntmps46
  go_wp2_with fail
  refine wp_region_quiet_below (by kernel_rfl) (by kernel_rfl) ?_
  repeat (first | (with_reducible refine wpQuiet_skip (by with_unfolding_all rfl) ?_; simp only [Act.put, List.setIfInBounds_toArray, List.set_cons_zero, List.set_cons_succ]) | (with_reducible refine wpQuiet_step (fun K hK => ?_); go_simp; first | (with_reducible refine hK _ ?_; clear hK K) | (apply Exists.intro; refine ⟨fun p => ?_, hK _ ?_⟩; (first | (go_at_call 84; with_reducible refine below_calls (h84.out p)) | (go_at_call 85; with_reducible refine below_calls (h85.out p))); clear hK K)))
  with_reducible refine wpQuiet_nil ?_
  intro _ hw'
  obtain ⟨pq, hw''⟩ := hw'
  subst hw''
  have hend := Hid.intro pq.h
  go_wp2_with fail
  go_ret
  exact ⟨rfl, hend.out⟩
theorem assert_ref (a : Addr) (w : World) : (Instr.typeAssert (.iface 51 (.pointer (some a))) 28 51 true).run Tryz.prog w = .ok (.tuple #[.pointer (some a), .bool true]) w := by kernel_rfl
theorem ptr_ne (a : Addr) (w : World) : (binOp .neq 51 (.pointer (some a)) (.pointer none)).run Tryz.prog w = .ok (.bool true) w := by kernel_rfl
theorem two_read {T : TypeId} {w : World} {g : Nat} {v0 v1 : Value} (h : w.heap[g]? = some (.cells #[v0, v1] T (0, 0))) : w.cell? ⟨g, 0, none⟩ = some v0 ∧ w.cell? ⟨g, 1, none⟩ = some v1 :=
  ⟨(cell_blockT h 0).trans rfl, (cell_blockT h 1).trans rfl⟩
set_option maxHeartbeats 8000000 in
theorem refused_any (q n k : Nat) (hn : n ≤ 1000000) (hk : k ≤ 99) (hk0 : k ≠ 0) (w : World) (hP : Pow w) (hq : w.heap[q]? = some (.cells #[.int .i64 (n : Int), .int .i64 (k : Int)] 55 (0, 0))) :
    Calls Tryz.prog 18 #[.iface 51 (.pointer (some ⟨q, 0, none⟩)), .agg #[.int .i64 (n : Int), .int .i64 (k : Int)]] w fun e w' => e = .returned (.bool true) ∧ Below w.heap.size w w' := by
  have hB0 := below_alloc w (.cells #[.int .i64 (n : Int), .int .i64 (k : Int)] 41)
  have hbx := heap_alloc_new w (.cells #[.int .i64 (n : Int), .int .i64 (k : Int)] 41)
  have hq0 := (hB0.block q (blk_lt hq)).trans hq
  have hP0 := hP.below hB0 hP.lt
  have hlt := blk_lt hq0
  have hlt2 := blk_lt hbx
  obtain ⟨y0, y1⟩ := two_read hbx
  generalize hW : w.alloc (.cells #[.int .i64 (n : Int), .int .i64 (k : Int)] 41) = W at *
  have c0 : ∀ p : BelowOf W, p.wd.cell? ⟨q, 0, none⟩ = some (.int .i64 (n : Int)) := fun p => p.cell (a := ⟨q, 0, none⟩) hlt (two_read hq0).1
  have c1 : ∀ p : BelowOf W, p.wd.cell? ⟨q, 1, none⟩ = some (.int .i64 (k : Int)) := fun p => p.cell (a := ⟨q, 1, none⟩) hlt (two_read hq0).2
  have d0 : ∀ p : BelowOf W, p.wd.cell? ⟨w.heap.size, 0, none⟩ = some (.int .i64 (n : Int)) := fun p => p.cell (a := ⟨w.heap.size, 0, none⟩) hlt2 y0
  have d1 : ∀ p : BelowOf W, p.wd.cell? ⟨w.heap.size, 1, none⟩ = some (.int .i64 (k : Int)) := fun p => p.cell (a := ⟨w.heap.size, 1, none⟩) hlt2 y1
  have toB : ∀ {f : FuncId} {args : Array Value} {W1 : World} {v : Value}, (Calls Tryz.prog f args W1 fun e w' => e = .returned v ∧ w' = W1) → Calls Tryz.prog f args W1 fun e w' => e = .returned v ∧ Below W1.heap.size W1 w' := fun h => h.mono fun e w' ⟨h1, h2⟩ => ⟨h1, by rw [h2]; exact Below.refl _ _⟩
  have h46 := Hid.intro (fun p : BelowOf W => refError_any q n k hn hk p.wd (hP0.below p.h hP0.lt) ((p.h.block q hlt).trans hq0))
  have h48 := Hid.intro (fun p : BelowOf W => toB (unwrap_any q (k : Int) p.wd (c1 p)))
  have h47 := Hid.intro (fun p : BelowOf W => toB (sameErr_any (k : Int) (k : Int) p.wd))
  have h49 := Hid.intro (fun p : BelowOf W => toB (is_refusal q (k : Int) p.wd (c1 p)))
  have hne := refS_ne n k
  have e1 : ((n : Int) == (n : Int)) = true := by simp
  have e2 : ((k : Int) == (k : Int)) = true := by simp
  have e3 : ((k : Int) == 0) = false := by simp; exact hk0
  rw [e2] at h47
  have ha := assert_ref ⟨q, 0, none⟩
  have hp := ptr_ne ⟨q, 0, none⟩
  have hB0H := Hid.intro hB0
  clear hq hq0 hP hP0 hbx hB0 hn hk hk0 toB hlt hlt2
  generalize refS n k = RS at *
  generalize (n : Int) = N at *
  generalize (k : Int) = K9 at *
  go_enter Tryz.func18, Tryz.ntmps18
  subst hW
  go_wp2_with fail
  refine wp_region_quiet_below (by kernel_rfl) (by kernel_rfl) ?_
  repeat (first | (with_reducible refine wpQuiet_skip (by with_unfolding_all rfl) ?_; simp only [Act.put, List.setIfInBounds_toArray, List.set_cons_zero, List.set_cons_succ]) | (with_reducible refine wpQuiet_step (fun K hK => ?_); go_simp; first | (with_reducible refine hK _ ?_; clear hK K) | (apply Exists.intro; refine ⟨fun p => ?_, hK _ ?_⟩; (first | (go_at_call 46; with_reducible refine below_calls (h46.out p)) | (go_at_call 48; with_reducible refine below_calls (h48.out p)) | (go_at_call 47; with_reducible refine below_calls (h47.out p)) | (go_at_call 49; with_reducible refine below_calls (h49.out p))); clear hK K)))
  with_reducible refine wpQuiet_nil ?_
  intro _ hw'
  obtain ⟨pq, hw''⟩ := hw'
  subst hw''
  have hend := Hid.intro (hB0H.out.trans (pq.h.mono hB0H.out.size))
  go_wp2_with fail
  go_ret
  exact ⟨rfl, hend.out⟩
end Go.Proofs.YtogkchgjpflmjaaGreatDoor
