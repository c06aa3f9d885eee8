/- single operations over r1 and r2. -/
import Derived.Test.YtlchefdddgbohaaDoorTw
import Derived.Test.YtlchefdddgbohaaDoorDoR1
import Derived.Test.YtlchefdddgbohaaDoorDoR2
import Derived.Test.YtlchefdddgbohaaDoorDoR3
import Derived.Test.YtlchefdddgbohaaDoorDoR5
namespace Go.Proofs.YtlchefdddgbohaaDoor
open Go.ChangeShapes Go.WideShapes Go.ChangeAt Go.RowKit
set_option linter.unusedVariables false
set_option linter.unusedSimpArgs false
set_option maxRecDepth 100000
/-- a Cpu of which r1 and r2 are known -/
def R12 (w0 w : World) (p : Nat) (x y : Int) : Prop := ∃ s, Cpu1 w0 w p s ∧ s.r 1 = x ∧ s.r 2 = y
section
variable {w0 w w' : World} {p : Nat} {x y : Int}
theorem R12.below (h : R12 w0 w p x y) (hb : Below w.heap.size w w') : R12 w0 w' p x y := by
  obtain ⟨s, h1, h2⟩ := h
  exact ⟨s, h1.below hb, h2⟩
theorem R12.tabs (h : R12 w0 w p x y) (hT : Tab w0 ∧ Kin w0) : Tab w ∧ Kin w := by
  obtain ⟨s, h1, h2⟩ := h
  exact h1.tabs hT
theorem R12.bel (h : R12 w0 w p x y) : Below w0.heap.size w0 w := by
  obtain ⟨s, h1, h2⟩ := h
  exact h1.1
theorem set_r (hT : Tab w0 ∧ Kin w0) (h : R12 w0 w p x y) (a b : Int) (ha : -2147483648 ≤ a ∧ a ≤ 2147483647) (hb : -2147483648 ≤ b ∧ b ≤ 2147483647) :
    Calls Tryd.prog 26 #[.pointer (some ⟨p, 0, none⟩), .int .i32 a, .int .i32 b] w fun e w' => e = .returned (.tuple #[]) ∧ R12 w0 w' p a b := by
  obtain ⟨s, h1, h2⟩ := h
  exact (set_any hT h1 a b ha hb).mono fun e w' ⟨he, hC⟩ => ⟨he, _, hC, rfl, rfl⟩
theorem reg_r (h : R12 w0 w p x y) : Calls Tryd.prog 11 #[.pointer (some ⟨p, 0, none⟩), .int .i64 1] w fun e w' => e = .returned (.int .i32 x) ∧ R12 w0 w' p x y := by
  obtain ⟨s, h1, h2, h3⟩ := h
  refine (reg_any h1 (k := 1) (by decide)).mono ?_
  rintro e w' ⟨rfl, rfl⟩
  exact ⟨by rw [h2], s, h1, h2, h3⟩
theorem o_neg (W : World) : Calls Tryd.prog 15 #[.string ⟨#[110, 101, 103]⟩, .int .i64 1, .int .i64 0, .int .i32 0] W fun e w' => e = .returned (instV 9 1 0 0 0) ∧ Below W.heap.size W w' := by
  have hf : findN (nm ⟨#[110, 101, 103]⟩) = 9 := by decide +kernel
  have := op_any ⟨#[110, 101, 103]⟩ 1 0 0 W
  rw [hf] at this
  exact this
theorem d_neg (hT : Tab w0 ∧ Kin w0) (h : R12 w0 w p x y) :
    Calls Tryd.prog 16 #[.pointer (some ⟨p, 0, none⟩), instV 9 1 0 0 0, .int .i32 0, .slice none 0 0, .int .i64 0] w fun e w' => e = .returned (effV 0 0 0) ∧ R12 w0 w' p (reckN 9 x 0) y := by
  obtain ⟨s, h1, h2, h3⟩ := h
  have hc : checkN 9 ((1 : Nat) : Int) ((0 : Nat) : Int) 0 0 = 0 := by decide +kernel
  refine (Do_any (word := 0) (fr := 0) hT h1 (.slice none 0 0) hc (by omega) fun ks W hK hC => do_neg hC (by decide) (by decide) 0 0 0 0 (.slice none 0 0)).mono ?_
  rintro e w' ⟨rfl, hC⟩
  refine ⟨rfl, _, hC, ?_, ?_⟩
  · show upd s.r 1 (reckN 9 (s.r 1) (s.r 0)) 1 = _
    unfold upd
    rw [if_pos rfl, h2]
    unfold reckN; simp
  · show upd s.r 1 (reckN 9 (s.r 1) (s.r 0)) 2 = _
    unfold upd
    rw [if_neg (by decide), h3]
theorem o_lnot (W : World) : Calls Tryd.prog 15 #[.string ⟨#[110, 111, 116]⟩, .int .i64 1, .int .i64 0, .int .i32 0] W fun e w' => e = .returned (instV 10 1 0 0 0) ∧ Below W.heap.size W w' := by
  have hf : findN (nm ⟨#[110, 111, 116]⟩) = 10 := by decide +kernel
  have := op_any ⟨#[110, 111, 116]⟩ 1 0 0 W
  rw [hf] at this
  exact this
theorem d_lnot (hT : Tab w0 ∧ Kin w0) (h : R12 w0 w p x y) :
    Calls Tryd.prog 16 #[.pointer (some ⟨p, 0, none⟩), instV 10 1 0 0 0, .int .i32 0, .slice none 0 0, .int .i64 0] w fun e w' => e = .returned (effV 0 0 0) ∧ R12 w0 w' p (reckN 10 x 0) y := by
  obtain ⟨s, h1, h2, h3⟩ := h
  have hc : checkN 10 ((1 : Nat) : Int) ((0 : Nat) : Int) 0 0 = 0 := by decide +kernel
  refine (Do_any (word := 0) (fr := 0) hT h1 (.slice none 0 0) hc (by omega) fun ks W hK hC => do_lnot hC (by decide) (by decide) 0 0 0 0 (.slice none 0 0)).mono ?_
  rintro e w' ⟨rfl, hC⟩
  refine ⟨rfl, _, hC, ?_, ?_⟩
  · show upd s.r 1 (reckN 10 (s.r 1) (s.r 0)) 1 = _
    unfold upd
    rw [if_pos rfl, h2]
    unfold reckN; simp
  · show upd s.r 1 (reckN 10 (s.r 1) (s.r 0)) 2 = _
    unfold upd
    rw [if_neg (by decide), h3]
theorem o_mov (W : World) : Calls Tryd.prog 15 #[.string ⟨#[109, 111, 118]⟩, .int .i64 1, .int .i64 2, .int .i32 0] W fun e w' => e = .returned (instV 13 1 2 0 0) ∧ Below W.heap.size W w' := by
  have hf : findN (nm ⟨#[109, 111, 118]⟩) = 13 := by decide +kernel
  have := op_any ⟨#[109, 111, 118]⟩ 1 2 0 W
  rw [hf] at this
  exact this
theorem d_mov (hT : Tab w0 ∧ Kin w0) (h : R12 w0 w p x y) :
    Calls Tryd.prog 16 #[.pointer (some ⟨p, 0, none⟩), instV 13 1 2 0 0, .int .i32 0, .slice none 0 0, .int .i64 0] w fun e w' => e = .returned (effV 0 0 0) ∧ R12 w0 w' p (reckN 13 x y) y := by
  obtain ⟨s, h1, h2, h3⟩ := h
  have hc : checkN 13 ((1 : Nat) : Int) ((2 : Nat) : Int) 0 0 = 0 := by decide +kernel
  refine (Do_any (word := 0) (fr := 0) hT h1 (.slice none 0 0) hc (by omega) fun ks W hK hC => do_mov hC (by decide) (by decide) 0 0 0 0 (.slice none 0 0)).mono ?_
  rintro e w' ⟨rfl, hC⟩
  refine ⟨rfl, _, hC, ?_, ?_⟩
  · show upd s.r 1 (reckN 13 (s.r 1) (s.r 2)) 1 = _
    unfold upd
    rw [if_pos rfl, h2]
    rw [h3]
  · show upd s.r 1 (reckN 13 (s.r 1) (s.r 2)) 2 = _
    unfold upd
    rw [if_neg (by decide), h3]
theorem o_add (W : World) : Calls Tryd.prog 15 #[.string ⟨#[97, 100, 100]⟩, .int .i64 1, .int .i64 2, .int .i32 0] W fun e w' => e = .returned (instV 14 1 2 0 0) ∧ Below W.heap.size W w' := by
  have hf : findN (nm ⟨#[97, 100, 100]⟩) = 14 := by decide +kernel
  have := op_any ⟨#[97, 100, 100]⟩ 1 2 0 W
  rw [hf] at this
  exact this
theorem d_add (hT : Tab w0 ∧ Kin w0) (h : R12 w0 w p x y) :
    Calls Tryd.prog 16 #[.pointer (some ⟨p, 0, none⟩), instV 14 1 2 0 0, .int .i32 0, .slice none 0 0, .int .i64 0] w fun e w' => e = .returned (effV 0 0 0) ∧ R12 w0 w' p (reckN 14 x y) y := by
  obtain ⟨s, h1, h2, h3⟩ := h
  have hc : checkN 14 ((1 : Nat) : Int) ((2 : Nat) : Int) 0 0 = 0 := by decide +kernel
  refine (Do_any (word := 0) (fr := 0) hT h1 (.slice none 0 0) hc (by omega) fun ks W hK hC => do_add hC (by decide) (by decide) 0 0 0 0 (.slice none 0 0)).mono ?_
  rintro e w' ⟨rfl, hC⟩
  refine ⟨rfl, _, hC, ?_, ?_⟩
  · show upd s.r 1 (reckN 14 (s.r 1) (s.r 2)) 1 = _
    unfold upd
    rw [if_pos rfl, h2]
    rw [h3]
  · show upd s.r 1 (reckN 14 (s.r 1) (s.r 2)) 2 = _
    unfold upd
    rw [if_neg (by decide), h3]
theorem o_sub (W : World) : Calls Tryd.prog 15 #[.string ⟨#[115, 117, 98]⟩, .int .i64 1, .int .i64 2, .int .i32 0] W fun e w' => e = .returned (instV 15 1 2 0 0) ∧ Below W.heap.size W w' := by
  have hf : findN (nm ⟨#[115, 117, 98]⟩) = 15 := by decide +kernel
  have := op_any ⟨#[115, 117, 98]⟩ 1 2 0 W
  rw [hf] at this
  exact this
theorem d_sub (hT : Tab w0 ∧ Kin w0) (h : R12 w0 w p x y) :
    Calls Tryd.prog 16 #[.pointer (some ⟨p, 0, none⟩), instV 15 1 2 0 0, .int .i32 0, .slice none 0 0, .int .i64 0] w fun e w' => e = .returned (effV 0 0 0) ∧ R12 w0 w' p (reckN 15 x y) y := by
  obtain ⟨s, h1, h2, h3⟩ := h
  have hc : checkN 15 ((1 : Nat) : Int) ((2 : Nat) : Int) 0 0 = 0 := by decide +kernel
  refine (Do_any (word := 0) (fr := 0) hT h1 (.slice none 0 0) hc (by omega) fun ks W hK hC => do_sub hC (by decide) (by decide) 0 0 0 0 (.slice none 0 0)).mono ?_
  rintro e w' ⟨rfl, hC⟩
  refine ⟨rfl, _, hC, ?_, ?_⟩
  · show upd s.r 1 (reckN 15 (s.r 1) (s.r 2)) 1 = _
    unfold upd
    rw [if_pos rfl, h2]
    rw [h3]
  · show upd s.r 1 (reckN 15 (s.r 1) (s.r 2)) 2 = _
    unfold upd
    rw [if_neg (by decide), h3]
theorem o_mul (W : World) : Calls Tryd.prog 15 #[.string ⟨#[109, 117, 108]⟩, .int .i64 1, .int .i64 2, .int .i32 0] W fun e w' => e = .returned (instV 16 1 2 0 0) ∧ Below W.heap.size W w' := by
  have hf : findN (nm ⟨#[109, 117, 108]⟩) = 16 := by decide +kernel
  have := op_any ⟨#[109, 117, 108]⟩ 1 2 0 W
  rw [hf] at this
  exact this
theorem d_mul (hT : Tab w0 ∧ Kin w0) (h : R12 w0 w p x y) :
    Calls Tryd.prog 16 #[.pointer (some ⟨p, 0, none⟩), instV 16 1 2 0 0, .int .i32 0, .slice none 0 0, .int .i64 0] w fun e w' => e = .returned (effV 0 0 0) ∧ R12 w0 w' p (reckN 16 x y) y := by
  obtain ⟨s, h1, h2, h3⟩ := h
  have hc : checkN 16 ((1 : Nat) : Int) ((2 : Nat) : Int) 0 0 = 0 := by decide +kernel
  refine (Do_any (word := 0) (fr := 0) hT h1 (.slice none 0 0) hc (by omega) fun ks W hK hC => do_mul hC (by decide) (by decide) 0 0 0 0 (.slice none 0 0)).mono ?_
  rintro e w' ⟨rfl, hC⟩
  refine ⟨rfl, _, hC, ?_, ?_⟩
  · show upd s.r 1 (reckN 16 (s.r 1) (s.r 2)) 1 = _
    unfold upd
    rw [if_pos rfl, h2]
    rw [h3]
  · show upd s.r 1 (reckN 16 (s.r 1) (s.r 2)) 2 = _
    unfold upd
    rw [if_neg (by decide), h3]
theorem o_land (W : World) : Calls Tryd.prog 15 #[.string ⟨#[97, 110, 100]⟩, .int .i64 1, .int .i64 2, .int .i32 0] W fun e w' => e = .returned (instV 18 1 2 0 0) ∧ Below W.heap.size W w' := by
  have hf : findN (nm ⟨#[97, 110, 100]⟩) = 18 := by decide +kernel
  have := op_any ⟨#[97, 110, 100]⟩ 1 2 0 W
  rw [hf] at this
  exact this
theorem d_land (hT : Tab w0 ∧ Kin w0) (h : R12 w0 w p x y) :
    Calls Tryd.prog 16 #[.pointer (some ⟨p, 0, none⟩), instV 18 1 2 0 0, .int .i32 0, .slice none 0 0, .int .i64 0] w fun e w' => e = .returned (effV 0 0 0) ∧ R12 w0 w' p (reckN 18 x y) y := by
  obtain ⟨s, h1, h2, h3⟩ := h
  have hc : checkN 18 ((1 : Nat) : Int) ((2 : Nat) : Int) 0 0 = 0 := by decide +kernel
  refine (Do_any (word := 0) (fr := 0) hT h1 (.slice none 0 0) hc (by omega) fun ks W hK hC => do_land hC (by decide) (by decide) 0 0 0 0 (.slice none 0 0)).mono ?_
  rintro e w' ⟨rfl, hC⟩
  refine ⟨rfl, _, hC, ?_, ?_⟩
  · show upd s.r 1 (reckN 18 (s.r 1) (s.r 2)) 1 = _
    unfold upd
    rw [if_pos rfl, h2]
    rw [h3]
  · show upd s.r 1 (reckN 18 (s.r 1) (s.r 2)) 2 = _
    unfold upd
    rw [if_neg (by decide), h3]
theorem o_lor (W : World) : Calls Tryd.prog 15 #[.string ⟨#[111, 114]⟩, .int .i64 1, .int .i64 2, .int .i32 0] W fun e w' => e = .returned (instV 19 1 2 0 0) ∧ Below W.heap.size W w' := by
  have hf : findN (nm ⟨#[111, 114]⟩) = 19 := by decide +kernel
  have := op_any ⟨#[111, 114]⟩ 1 2 0 W
  rw [hf] at this
  exact this
theorem d_lor (hT : Tab w0 ∧ Kin w0) (h : R12 w0 w p x y) :
    Calls Tryd.prog 16 #[.pointer (some ⟨p, 0, none⟩), instV 19 1 2 0 0, .int .i32 0, .slice none 0 0, .int .i64 0] w fun e w' => e = .returned (effV 0 0 0) ∧ R12 w0 w' p (reckN 19 x y) y := by
  obtain ⟨s, h1, h2, h3⟩ := h
  have hc : checkN 19 ((1 : Nat) : Int) ((2 : Nat) : Int) 0 0 = 0 := by decide +kernel
  refine (Do_any (word := 0) (fr := 0) hT h1 (.slice none 0 0) hc (by omega) fun ks W hK hC => do_lor hC (by decide) (by decide) 0 0 0 0 (.slice none 0 0)).mono ?_
  rintro e w' ⟨rfl, hC⟩
  refine ⟨rfl, _, hC, ?_, ?_⟩
  · show upd s.r 1 (reckN 19 (s.r 1) (s.r 2)) 1 = _
    unfold upd
    rw [if_pos rfl, h2]
    rw [h3]
  · show upd s.r 1 (reckN 19 (s.r 1) (s.r 2)) 2 = _
    unfold upd
    rw [if_neg (by decide), h3]
theorem o_xor (W : World) : Calls Tryd.prog 15 #[.string ⟨#[120, 111, 114]⟩, .int .i64 1, .int .i64 2, .int .i32 0] W fun e w' => e = .returned (instV 20 1 2 0 0) ∧ Below W.heap.size W w' := by
  have hf : findN (nm ⟨#[120, 111, 114]⟩) = 20 := by decide +kernel
  have := op_any ⟨#[120, 111, 114]⟩ 1 2 0 W
  rw [hf] at this
  exact this
theorem d_xor (hT : Tab w0 ∧ Kin w0) (h : R12 w0 w p x y) :
    Calls Tryd.prog 16 #[.pointer (some ⟨p, 0, none⟩), instV 20 1 2 0 0, .int .i32 0, .slice none 0 0, .int .i64 0] w fun e w' => e = .returned (effV 0 0 0) ∧ R12 w0 w' p (reckN 20 x y) y := by
  obtain ⟨s, h1, h2, h3⟩ := h
  have hc : checkN 20 ((1 : Nat) : Int) ((2 : Nat) : Int) 0 0 = 0 := by decide +kernel
  refine (Do_any (word := 0) (fr := 0) hT h1 (.slice none 0 0) hc (by omega) fun ks W hK hC => do_xor hC (by decide) (by decide) 0 0 0 0 (.slice none 0 0)).mono ?_
  rintro e w' ⟨rfl, hC⟩
  refine ⟨rfl, _, hC, ?_, ?_⟩
  · show upd s.r 1 (reckN 20 (s.r 1) (s.r 2)) 1 = _
    unfold upd
    rw [if_pos rfl, h2]
    rw [h3]
  · show upd s.r 1 (reckN 20 (s.r 1) (s.r 2)) 2 = _
    unfold upd
    rw [if_neg (by decide), h3]
theorem o_lt (W : World) : Calls Tryd.prog 15 #[.string ⟨#[108, 116]⟩, .int .i64 1, .int .i64 2, .int .i32 0] W fun e w' => e = .returned (instV 23 1 2 0 0) ∧ Below W.heap.size W w' := by
  have hf : findN (nm ⟨#[108, 116]⟩) = 23 := by decide +kernel
  have := op_any ⟨#[108, 116]⟩ 1 2 0 W
  rw [hf] at this
  exact this
theorem d_lt (hT : Tab w0 ∧ Kin w0) (h : R12 w0 w p x y) :
    Calls Tryd.prog 16 #[.pointer (some ⟨p, 0, none⟩), instV 23 1 2 0 0, .int .i32 0, .slice none 0 0, .int .i64 0] w fun e w' => e = .returned (effV 0 0 0) ∧ R12 w0 w' p (reckN 23 x y) y := by
  obtain ⟨s, h1, h2, h3⟩ := h
  have hc : checkN 23 ((1 : Nat) : Int) ((2 : Nat) : Int) 0 0 = 0 := by decide +kernel
  refine (Do_any (word := 0) (fr := 0) hT h1 (.slice none 0 0) hc (by omega) fun ks W hK hC => do_lt hC (by decide) (by decide) 0 0 0 0 (.slice none 0 0)).mono ?_
  rintro e w' ⟨rfl, hC⟩
  refine ⟨rfl, _, hC, ?_, ?_⟩
  · show upd s.r 1 (reckN 23 (s.r 1) (s.r 2)) 1 = _
    unfold upd
    rw [if_pos rfl, h2]
    rw [h3]
  · show upd s.r 1 (reckN 23 (s.r 1) (s.r 2)) 2 = _
    unfold upd
    rw [if_neg (by decide), h3]
theorem o_eq (W : World) : Calls Tryd.prog 15 #[.string ⟨#[101, 113]⟩, .int .i64 1, .int .i64 2, .int .i32 0] W fun e w' => e = .returned (instV 24 1 2 0 0) ∧ Below W.heap.size W w' := by
  have hf : findN (nm ⟨#[101, 113]⟩) = 24 := by decide +kernel
  have := op_any ⟨#[101, 113]⟩ 1 2 0 W
  rw [hf] at this
  exact this
theorem d_eq (hT : Tab w0 ∧ Kin w0) (h : R12 w0 w p x y) :
    Calls Tryd.prog 16 #[.pointer (some ⟨p, 0, none⟩), instV 24 1 2 0 0, .int .i32 0, .slice none 0 0, .int .i64 0] w fun e w' => e = .returned (effV 0 0 0) ∧ R12 w0 w' p (reckN 24 x y) y := by
  obtain ⟨s, h1, h2, h3⟩ := h
  have hc : checkN 24 ((1 : Nat) : Int) ((2 : Nat) : Int) 0 0 = 0 := by decide +kernel
  refine (Do_any (word := 0) (fr := 0) hT h1 (.slice none 0 0) hc (by omega) fun ks W hK hC => do_eq hC (by decide) (by decide) 0 0 0 0 (.slice none 0 0)).mono ?_
  rintro e w' ⟨rfl, hC⟩
  refine ⟨rfl, _, hC, ?_, ?_⟩
  · show upd s.r 1 (reckN 24 (s.r 1) (s.r 2)) 1 = _
    unfold upd
    rw [if_pos rfl, h2]
    rw [h3]
  · show upd s.r 1 (reckN 24 (s.r 1) (s.r 2)) 2 = _
    unfold upd
    rw [if_neg (by decide), h3]
end
end Go.Proofs.YtlchefdddgbohaaDoor
