/- the four registers z, one by one. -/
import Derived.Test.YtlchefdddgbohaaDoorGp
namespace Go.Proofs.YtlchefdddgbohaaDoor
open Go.ChangeShapes Go.WideShapes Go.ChangeAt Go.RowKit
set_option linter.unusedVariables false
set_option linter.unusedSimpArgs false
set_option maxRecDepth 100000
open PlainF
abbrev Pr := Int × Int
def G4 (w0 w : World) (p : Nat) (a b c d : Pr) : Prop := ∃ zz, GS w0 w p zz ∧ zz 0 = a ∧ zz 1 = b ∧ zz 2 = c ∧ zz 3 = d
section
variable {w0 w w' : World} {p : Nat} {a b c d : Pr}
theorem G4.below (h : G4 w0 w p a b c d) (hb : Below w.heap.size w w') : G4 w0 w' p a b c d := by
  obtain ⟨zz, h1, h2⟩ := h
  exact ⟨zz, h1.below hb, h2⟩
theorem G4.bel (h : G4 w0 w p a b c d) : Below w0.heap.size w0 w := by
  obtain ⟨zz, h1, h2⟩ := h
  exact h1.bel
theorem g4_fresh (w : World) : Calls Tryd.prog 10 #[.slice none 0 0] w fun e w' => ∃ p, e = .returned (.tuple #[.pointer (some ⟨p, 0, none⟩), .bool true]) ∧ G4 w w' p (0, 0) (0, 0) (0, 0) (0, 0) :=
  (gs_fresh w).mono fun e w' ⟨p, he, h⟩ => ⟨p, he, _, h, rfl, rfl, rfl, rfl⟩
theorem g4_known (hT : Tab w0 ∧ Kin w0) (h : G4 w0 w p a b c d) : Calls Tryd.prog 17 #[] w fun e w' => e = .returned (.bool true) ∧ G4 w0 w' p a b c d := by
  obtain ⟨zz, h1, h2⟩ := h
  exact (gs_known hT h1).mono fun e w' ⟨he, h⟩ => ⟨he, zz, h, h2⟩
theorem g_put0 (hT : Tab w0 ∧ Kin w0) (h : G4 w0 w p a b c d) (x y : Int) (hx : x.natAbs ≤ 1073741824) (hy : y.natAbs ≤ 1073741824) :
    Calls Tryd.prog 27 #[.pointer (some ⟨p, 0, none⟩), .int .i64 0, .int .i32 x, .int .i32 y] w fun e w' => e = .returned (.tuple #[]) ∧ G4 w0 w' p (x, y) b c d := by
  obtain ⟨zz, h1, e0, e1, e2, e3⟩ := h
  refine (put_0 hT h1 x y hx hy).mono ?_
  rintro e w' ⟨rfl, hG⟩
  exact ⟨rfl, _, hG, by simp [upd], by simp [upd, e1], by simp [upd, e2], by simp [upd, e3]⟩
theorem g_put1 (hT : Tab w0 ∧ Kin w0) (h : G4 w0 w p a b c d) (x y : Int) (hx : x.natAbs ≤ 1073741824) (hy : y.natAbs ≤ 1073741824) :
    Calls Tryd.prog 27 #[.pointer (some ⟨p, 0, none⟩), .int .i64 1, .int .i32 x, .int .i32 y] w fun e w' => e = .returned (.tuple #[]) ∧ G4 w0 w' p a (x, y) c d := by
  obtain ⟨zz, h1, e0, e1, e2, e3⟩ := h
  refine (put_1 hT h1 x y hx hy).mono ?_
  rintro e w' ⟨rfl, hG⟩
  exact ⟨rfl, _, hG, by simp [upd, e0], by simp [upd], by simp [upd, e2], by simp [upd, e3]⟩
theorem g_put2 (hT : Tab w0 ∧ Kin w0) (h : G4 w0 w p a b c d) (x y : Int) (hx : x.natAbs ≤ 1073741824) (hy : y.natAbs ≤ 1073741824) :
    Calls Tryd.prog 27 #[.pointer (some ⟨p, 0, none⟩), .int .i64 2, .int .i32 x, .int .i32 y] w fun e w' => e = .returned (.tuple #[]) ∧ G4 w0 w' p a b (x, y) d := by
  obtain ⟨zz, h1, e0, e1, e2, e3⟩ := h
  refine (put_2 hT h1 x y hx hy).mono ?_
  rintro e w' ⟨rfl, hG⟩
  exact ⟨rfl, _, hG, by simp [upd, e0], by simp [upd, e1], by simp [upd], by simp [upd, e3]⟩
theorem g_parts0 (hT : Tab w0 ∧ Kin w0) {x y : Int} (h : G4 w0 w p (x, y) b c d) (hx : -2147483648 ≤ x ∧ x ≤ 2147483647) (hy : -2147483648 ≤ y ∧ y ≤ 2147483647) :
    Calls Tryd.prog 28 #[.pointer (some ⟨p, 0, none⟩), .int .i64 0] w fun e w' => e = .returned (.tuple #[.int .i32 x, .int .i32 y]) ∧ G4 w0 w' p (x, y) b c d := by
  obtain ⟨zz, h1, e0, e1, e2, e3⟩ := h
  refine (parts_0 hT h1 x y e0 hx hy).mono ?_
  rintro e w' ⟨rfl, hG⟩
  exact ⟨rfl, zz, hG, e0, e1, e2, e3⟩
theorem g_parts2 (hT : Tab w0 ∧ Kin w0) {x y : Int} (h : G4 w0 w p a b (x, y) d) (hx : -2147483648 ≤ x ∧ x ≤ 2147483647) (hy : -2147483648 ≤ y ∧ y ≤ 2147483647) :
    Calls Tryd.prog 28 #[.pointer (some ⟨p, 0, none⟩), .int .i64 2] w fun e w' => e = .returned (.tuple #[.int .i32 x, .int .i32 y]) ∧ G4 w0 w' p a b (x, y) d := by
  obtain ⟨zz, h1, e0, e1, e2, e3⟩ := h
  refine (parts_2 hT h1 x y e2 hx hy).mono ?_
  rintro e w' ⟨rfl, hG⟩
  exact ⟨rfl, zz, hG, e0, e1, e2, e3⟩
theorem g_zmul_01 (hT : Tab w0 ∧ Kin w0) (h : G4 w0 w p a b c d) (b1 : a.1.natAbs ≤ 32768) (b2 : a.2.natAbs ≤ 32768) (b3 : b.1.natAbs ≤ 32768) (b4 : b.2.natAbs ≤ 32768) :
    Calls Tryd.prog 16 #[.pointer (some ⟨p, 0, none⟩), instV 32 0 1 0 0, .int .i32 0, .slice none 0 0, .int .i64 0] w fun e w' => e = .returned (effV 0 0 0) ∧ G4 w0 w' p (a.1 * b.1 - a.2 * b.2, a.1 * b.2 + a.2 * b.1) b c d := by
  obtain ⟨zz, h1, e0, e1, e2, e3⟩ := h
  refine (d_zmul_01 hT h1 (by rw [e0]; exact b1) (by rw [e0]; exact b2) (by rw [e1]; exact b3) (by rw [e1]; exact b4)).mono ?_
  rintro e w' ⟨rfl, hG⟩
  exact ⟨rfl, _, hG, by simp [upd, e0, e1], by simp [upd, e1], by simp [upd, e2], by simp [upd, e3]⟩
theorem g_zmul_23 (hT : Tab w0 ∧ Kin w0) (h : G4 w0 w p a b c d) (b1 : c.1.natAbs ≤ 32768) (b2 : c.2.natAbs ≤ 32768) (b3 : d.1.natAbs ≤ 32768) (b4 : d.2.natAbs ≤ 32768) :
    Calls Tryd.prog 16 #[.pointer (some ⟨p, 0, none⟩), instV 32 2 3 0 0, .int .i32 0, .slice none 0 0, .int .i64 0] w fun e w' => e = .returned (effV 0 0 0) ∧ G4 w0 w' p a b (c.1 * d.1 - c.2 * d.2, c.1 * d.2 + c.2 * d.1) d := by
  obtain ⟨zz, h1, e0, e1, e2, e3⟩ := h
  refine (d_zmul_23 hT h1 (by rw [e2]; exact b1) (by rw [e2]; exact b2) (by rw [e3]; exact b3) (by rw [e3]; exact b4)).mono ?_
  rintro e w' ⟨rfl, hG⟩
  exact ⟨rfl, _, hG, by simp [upd, e0], by simp [upd, e1], by simp [upd, e2, e3], by simp [upd, e3]⟩
theorem g_zmov_32 (hT : Tab w0 ∧ Kin w0) (h : G4 w0 w p a b c d) :
    Calls Tryd.prog 16 #[.pointer (some ⟨p, 0, none⟩), instV 29 3 2 0 0, .int .i32 0, .slice none 0 0, .int .i64 0] w fun e w' => e = .returned (effV 0 0 0) ∧ G4 w0 w' p a b c (c.1, c.2) := by
  obtain ⟨zz, h1, e0, e1, e2, e3⟩ := h
  refine (d_zmov_32 hT h1).mono ?_
  rintro e w' ⟨rfl, hG⟩
  exact ⟨rfl, _, hG, by simp [upd, e0], by simp [upd, e1], by simp [upd, e2], by simp [upd, e3, e2]⟩
theorem g_zadd_21 (hT : Tab w0 ∧ Kin w0) (h : G4 w0 w p a b c d) (b1 : c.1.natAbs ≤ 1073741824) (b2 : c.2.natAbs ≤ 1073741824) (b3 : b.1.natAbs ≤ 1073741824) (b4 : b.2.natAbs ≤ 1073741824) :
    Calls Tryd.prog 16 #[.pointer (some ⟨p, 0, none⟩), instV 30 2 1 0 0, .int .i32 0, .slice none 0 0, .int .i64 0] w fun e w' => e = .returned (effV 0 0 0) ∧ G4 w0 w' p a b (c.1 + b.1, c.2 + b.2) d := by
  obtain ⟨zz, h1, e0, e1, e2, e3⟩ := h
  refine (d_zadd_21 hT h1 (by rw [e2]; exact b1) (by rw [e2]; exact b2) (by rw [e1]; exact b3) (by rw [e1]; exact b4)).mono ?_
  rintro e w' ⟨rfl, hG⟩
  exact ⟨rfl, _, hG, by simp [upd, e0], by simp [upd, e1], by simp [upd, e2, e1], by simp [upd, e3]⟩
theorem g_zsub_21 (hT : Tab w0 ∧ Kin w0) (h : G4 w0 w p a b c d) (b1 : c.1.natAbs ≤ 1073741824) (b2 : c.2.natAbs ≤ 1073741824) (b3 : b.1.natAbs ≤ 1073741824) (b4 : b.2.natAbs ≤ 1073741824) :
    Calls Tryd.prog 16 #[.pointer (some ⟨p, 0, none⟩), instV 31 2 1 0 0, .int .i32 0, .slice none 0 0, .int .i64 0] w fun e w' => e = .returned (effV 0 0 0) ∧ G4 w0 w' p a b (c.1 - b.1, c.2 - b.2) d := by
  obtain ⟨zz, h1, e0, e1, e2, e3⟩ := h
  refine (d_zsub_21 hT h1 (by rw [e2]; exact b1) (by rw [e2]; exact b2) (by rw [e1]; exact b3) (by rw [e1]; exact b4)).mono ?_
  rintro e w' ⟨rfl, hG⟩
  exact ⟨rfl, _, hG, by simp [upd, e0], by simp [upd, e1], by simp [upd, e2, e1], by simp [upd, e3]⟩
theorem g_zturn_20 (hT : Tab w0 ∧ Kin w0) (h : G4 w0 w p a b c d) :
    Calls Tryd.prog 16 #[.pointer (some ⟨p, 0, none⟩), instV 11 2 0 0 0, .int .i32 0, .slice none 0 0, .int .i64 0] w fun e w' => e = .returned (effV 0 0 0) ∧ G4 w0 w' p a b (-c.2, c.1) d := by
  obtain ⟨zz, h1, e0, e1, e2, e3⟩ := h
  refine (d_zturn_20 hT h1).mono ?_
  rintro e w' ⟨rfl, hG⟩
  exact ⟨rfl, _, hG, by simp [upd, e0], by simp [upd, e1], by simp [upd, e2, e0], by simp [upd, e3]⟩
theorem g_zconj_30 (hT : Tab w0 ∧ Kin w0) (h : G4 w0 w p a b c d) :
    Calls Tryd.prog 16 #[.pointer (some ⟨p, 0, none⟩), instV 12 3 0 0 0, .int .i32 0, .slice none 0 0, .int .i64 0] w fun e w' => e = .returned (effV 0 0 0) ∧ G4 w0 w' p a b c (d.1, -d.2) := by
  obtain ⟨zz, h1, e0, e1, e2, e3⟩ := h
  refine (d_zconj_30 hT h1).mono ?_
  rintro e w' ⟨rfl, hG⟩
  exact ⟨rfl, _, hG, by simp [upd, e0], by simp [upd, e1], by simp [upd, e2], by simp [upd, e3, e0]⟩
end
end Go.Proofs.YtlchefdddgbohaaDoor
