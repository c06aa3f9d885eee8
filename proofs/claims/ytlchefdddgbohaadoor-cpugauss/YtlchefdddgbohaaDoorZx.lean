/- Doubles in 64 bits; what a callee leaves of an instruction. -/
import Derived.Test.YtlchefdddgbohaaDoorCz
import Derived.Test.YtlchefdddgbohaaDoorWh
namespace Go.Proofs.YtlchefdddgbohaaDoor
open Go.ChangeShapes Go.WideShapes Go.ChangeAt Go.RowKit
set_option linter.unusedVariables false
set_option linter.unusedSimpArgs false
set_option maxRecDepth 100000
open PlainF
theorem fnear_lt (n : Int) : floatOfInt FloatKind.f64 n < 2 ^ 64 := write_word (.number (n < 0) n.natAbs 0)
theorem floatOf_rep (n : Int) (h : n.natAbs < 2 ^ 53) : Rep (floatOfInt FloatKind.f64 n) n := nearest_rep n h
theorem f_lt_add {x y u : Nat} (h : Ieee.double.add x y = some u) : u < 2 ^ 64 := by
  unfold Ieee.Format.add at h
  obtain ⟨d, _, hd⟩ := Option.map_eq_some_iff.1 h
  rw [← hd]
  exact write_word d
theorem f_lt_sub {x y u : Nat} (h : Ieee.double.sub x y = some u) : u < 2 ^ 64 := by
  unfold Ieee.Format.sub at h
  obtain ⟨d, _, hd⟩ := Option.map_eq_some_iff.1 h
  rw [← hd]
  exact write_word d
theorem run_mulS (a c : Nat) (w : World) : ∃ r w', (binOp .mul 103 (.float .f64 a) (.float .f64 c)).run Tryd.prog w = .ok (.float .f64 r) w' ∧ SameH w w' ∧ Ans (Ieee.double.mul a c) r := by
  obtain ⟨r, w', h1, h2, h3, _⟩ := run_mulF a c w
  refine ⟨r, w', h1, ?_, h3⟩
  rcases h2 with rfl | rfl
  · exact .refl _
  · exact .drew _
theorem run_addS (a c : Nat) (w : World) : ∃ r w', (binOp .add 103 (.float .f64 a) (.float .f64 c)).run Tryd.prog w = .ok (.float .f64 r) w' ∧ SameH w w' ∧ Ans (Ieee.double.add a c) r ∧ r < 2 ^ 64 := by
  obtain ⟨r, w', h1, h2, h3, h4⟩ := run_addF a c w
  refine ⟨r, w', h1, ?_, h3, word_lt h3 h4 fun u hu => f_lt_add hu⟩
  rcases h2 with rfl | rfl
  · exact .refl _
  · exact .drew _
theorem run_subS (a c : Nat) (w : World) : ∃ r w', (binOp .sub 103 (.float .f64 a) (.float .f64 c)).run Tryd.prog w = .ok (.float .f64 r) w' ∧ SameH w w' ∧ Ans (Ieee.double.sub a c) r ∧ r < 2 ^ 64 := by
  obtain ⟨r, w', h1, h2, h3, h4⟩ := run_subF a c w
  refine ⟨r, w', h1, ?_, h3, word_lt h3 h4 fun u hu => f_lt_sub hu⟩
  rcases h2 with rfl | rfl
  · exact .refl _
  · exact .drew _
theorem product_h (a b c d : Nat) (w : World) : Calls Tryd.prog 55 #[.complex .f64 a b, .complex .f64 c d] w fun e w' => SameH w w' ∧ ∃ x y, e = .returned (.complex .f64 x y) ∧ ProdIs a b c d x y ∧ x < 2 ^ 64 ∧ y < 2 ^ 64 := by
  obtain ⟨p, w1, h1, d1, a1⟩ := run_mulS a c w
  obtain ⟨q, w2, h2, d2, a2⟩ := run_mulS b d w1
  obtain ⟨x, w3, h3, d3, a3, lx⟩ := run_subS p q w2
  obtain ⟨r, w4, h4, d4, a4⟩ := run_mulS a d w3
  obtain ⟨t, w5, h5, d5, a5⟩ := run_mulS b c w4
  obtain ⟨y, w6, h6, d6, a6, ly⟩ := run_addS r t w5
  have b6 := Hid.intro (((((d1.trans d2).trans d3).trans d4).trans d5).trans d6)
  have hP : ProdIs a b c d x y := ⟨p, q, r, t, a1, a2, a3, a4, a5, a6⟩
  clear d1 d2 d3 d4 d5 d6 a1 a2 a3 a4 a5 a6
  go_enter Tryd.func55, Tryd.ntmps55
  go_wp2
  go_ret
  exact ⟨b6.out, x, y, rfl, hP, lx, ly⟩
theorem whole_S {ks : Nat → Prop} {w W w2 : World} {p A B : Nat} {s : St} {N : Int} (hC : CpuAt LP ks W p s) (hkl : ∀ g, ks g → g < w.heap.size) (hd : Moved ks W w2 ∧ ∃ ks', More ks ks' W ∧ CpuAt LP ks' w2 p { s with r := upd s.r A N })
    (h : W.cell? ⟨w.heap.size, 2, none⟩ = some (.int .i64 B) ∧ W.cell? ⟨p, 8 + B, none⟩ = some (.complex .f64 (s.z B).1 (s.z B).2)) (hB4 : B < 4) (hl : w.heap.size < W.heap.size) :
    w2.cell? ⟨w.heap.size, 2, none⟩ = some (.int .i64 B) ∧ w2.cell? ⟨p, 8 + B, none⟩ = some (.complex .f64 (s.z B).1 (s.z B).2) := by
  obtain ⟨hm, ks', _, hC2⟩ := hd
  have hnk : ¬ ks w.heap.size := fun hk => by have := hkl _ hk; omega
  exact ⟨(show w2.cell? ⟨w.heap.size, 2, none⟩ = W.cell? ⟨w.heap.size, 2, none⟩ from World.cell?_of_block (hm.block _ hl hnk)).trans h.1, hC2.zr hB4⟩
end Go.Proofs.YtlchefdddgbohaaDoor
