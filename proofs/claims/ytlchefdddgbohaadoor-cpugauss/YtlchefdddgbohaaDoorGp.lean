/- both parts of a z. -/
import Derived.Test.YtlchefdddgbohaaDoorGs
namespace Go.Proofs.YtlchefdddgbohaaDoor
open Go.ChangeShapes Go.WideShapes Go.ChangeAt Go.RowKit
set_option linter.unusedVariables false
set_option linter.unusedSimpArgs false
set_option maxRecDepth 100000
open PlainF
section
variable {w0 w w' : World} {p : Nat} {zz : Nat → Int × Int}
theorem o_zre0 (W : World) : Calls Tryd.prog 15 #[.string ⟨#[122, 114, 101]⟩, .int .i64 4, .int .i64 0, .int .i32 0] W fun e w' => e = .returned (instV 33 4 0 0 0) ∧ Below W.heap.size W w' := by
  have hf : findN (nm ⟨#[122, 114, 101]⟩) = 33 := by decide +kernel
  have := op_any ⟨#[122, 114, 101]⟩ 4 0 0 W
  rw [hf] at this
  exact this
theorem d_zre0 (hT : Tab w0 ∧ Kin w0) {s : St} (h : Cpu1 w0 w p s) {a : Int} (hx : Rep (s.z 0).1 a) (ha : -2147483648 ≤ a ∧ a ≤ 2147483647) :
    Calls Tryd.prog 16 #[.pointer (some ⟨p, 0, none⟩), instV 33 4 0 0 0, .int .i32 0, .slice none 0 0, .int .i64 0] w fun e w' => e = .returned (effV 0 0 0) ∧ Cpu1 w0 w' p { s with r := upd s.r 4 a } := by
  have hc : checkN 33 ((4 : Nat) : Int) ((0 : Nat) : Int) 0 0 = 0 := by decide +kernel
  exact Do_any (word := 0) (fr := 0) hT h (.slice none 0 0) hc (by omega) fun ks W hK hC => do_zre hC (by decide) (by decide) 0 0 0 0 (.slice none 0 0) (by decide) hx ha
theorem o_zim0 (W : World) : Calls Tryd.prog 15 #[.string ⟨#[122, 105, 109]⟩, .int .i64 5, .int .i64 0, .int .i32 0] W fun e w' => e = .returned (instV 34 5 0 0 0) ∧ Below W.heap.size W w' := by
  have hf : findN (nm ⟨#[122, 105, 109]⟩) = 34 := by decide +kernel
  have := op_any ⟨#[122, 105, 109]⟩ 5 0 0 W
  rw [hf] at this
  exact this
theorem d_zim0 (hT : Tab w0 ∧ Kin w0) {s : St} (h : Cpu1 w0 w p s) {a : Int} (hx : Rep (s.z 0).2 a) (ha : -2147483648 ≤ a ∧ a ≤ 2147483647) :
    Calls Tryd.prog 16 #[.pointer (some ⟨p, 0, none⟩), instV 34 5 0 0 0, .int .i32 0, .slice none 0 0, .int .i64 0] w fun e w' => e = .returned (effV 0 0 0) ∧ Cpu1 w0 w' p { s with r := upd s.r 5 a } := by
  have hc : checkN 34 ((5 : Nat) : Int) ((0 : Nat) : Int) 0 0 = 0 := by decide +kernel
  exact Do_any (word := 0) (fr := 0) hT h (.slice none 0 0) hc (by omega) fun ks W hK hC => do_zim hC (by decide) (by decide) 0 0 0 0 (.slice none 0 0) (by decide) hx ha
theorem parts_0 (hT : Tab w0 ∧ Kin w0) (h : GS w0 w p zz) (a b : Int) (hz : zz 0 = (a, b)) (ha : -2147483648 ≤ a ∧ a ≤ 2147483647) (hb : -2147483648 ≤ b ∧ b ≤ 2147483647) :
    Calls Tryd.prog 28 #[.pointer (some ⟨p, 0, none⟩), .int .i64 0] w fun e w' => e = .returned (.tuple #[.int .i32 a, .int .i32 b]) ∧ GS w0 w' p zz := by
  obtain ⟨s, h1, h2⟩ := h
  have hR := h2 0 (by decide)
  rw [hz] at hR
  have hS := Hid.intro h1
  have d1 := Hid.intro (fun (W : World) (h : Cpu1 w0 W p s) => d_zre0 hT h hR.1 ha)
  have d2 := Hid.intro (fun (W : World) (h : Cpu1 w0 W p { s with r := upd s.r 4 a }) => d_zim0 hT h hR.2 hb)
  have g1 := Hid.intro (fun (W : World) (h : Cpu1 w0 W p { s with r := upd (upd s.r 4 a) 5 b }) => (show Calls Tryd.prog 11 #[.pointer (some ⟨p, 0, none⟩), .int .i64 4] W (fun e w' => e = .returned (.int .i32 a) ∧ w' = W) from reg_any h (k := 4) (by decide)))
  have g2 := Hid.intro (fun (W : World) (h : Cpu1 w0 W p { s with r := upd (upd s.r 4 a) 5 b }) => (show Calls Tryd.prog 11 #[.pointer (some ⟨p, 0, none⟩), .int .i64 5] W (fun e w' => e = .returned (.int .i32 b) ∧ w' = W) from reg_any h (k := 5) (by decide)))
  have h2H := Hid.intro h2
  clear h1 h2 ha hb hR hz
  go_enter Tryd.func28, Tryd.ntmps28
  go_wp2_with (first
    | (go_at_call 15; first | ((with_reducible refine (o_zre0 _).mono ?_); rintro e w1 ⟨rfl, hb1⟩; replace hS := Hid.intro (hS.out.below hb1); clear hb1) | ((with_reducible refine (o_zim0 _).mono ?_); rintro e w1 ⟨rfl, hb1⟩; replace hS := Hid.intro (hS.out.below hb1); clear hb1))
    | (go_at_call 16; first | ((refine (d1.out _ hS.out).mono ?_); rintro e w1 ⟨rfl, hS1⟩; replace hS := Hid.intro hS1; clear hS1 d1) | ((refine (d2.out _ hS.out).mono ?_); rintro e w1 ⟨rfl, hS1⟩; replace hS := Hid.intro hS1; clear hS1 d2))
    | (go_at_call 11; first | ((with_reducible refine (g1.out _ hS.out).mono ?_); rintro e w1 ⟨rfl, rfl⟩) | ((with_reducible refine (g2.out _ hS.out).mono ?_); rintro e w1 ⟨rfl, rfl⟩)))
  refine bodyPost_ret (by simp [results, Tryd.results28, go_sem]; try rfl) rfl ⟨rfl, _, hS.out, h2H.out.same rfl⟩
theorem o_zre2 (W : World) : Calls Tryd.prog 15 #[.string ⟨#[122, 114, 101]⟩, .int .i64 4, .int .i64 2, .int .i32 0] W fun e w' => e = .returned (instV 33 4 2 0 0) ∧ Below W.heap.size W w' := by
  have hf : findN (nm ⟨#[122, 114, 101]⟩) = 33 := by decide +kernel
  have := op_any ⟨#[122, 114, 101]⟩ 4 2 0 W
  rw [hf] at this
  exact this
theorem d_zre2 (hT : Tab w0 ∧ Kin w0) {s : St} (h : Cpu1 w0 w p s) {a : Int} (hx : Rep (s.z 2).1 a) (ha : -2147483648 ≤ a ∧ a ≤ 2147483647) :
    Calls Tryd.prog 16 #[.pointer (some ⟨p, 0, none⟩), instV 33 4 2 0 0, .int .i32 0, .slice none 0 0, .int .i64 0] w fun e w' => e = .returned (effV 0 0 0) ∧ Cpu1 w0 w' p { s with r := upd s.r 4 a } := by
  have hc : checkN 33 ((4 : Nat) : Int) ((2 : Nat) : Int) 0 0 = 0 := by decide +kernel
  exact Do_any (word := 0) (fr := 0) hT h (.slice none 0 0) hc (by omega) fun ks W hK hC => do_zre hC (by decide) (by decide) 0 0 0 0 (.slice none 0 0) (by decide) hx ha
theorem o_zim2 (W : World) : Calls Tryd.prog 15 #[.string ⟨#[122, 105, 109]⟩, .int .i64 5, .int .i64 2, .int .i32 0] W fun e w' => e = .returned (instV 34 5 2 0 0) ∧ Below W.heap.size W w' := by
  have hf : findN (nm ⟨#[122, 105, 109]⟩) = 34 := by decide +kernel
  have := op_any ⟨#[122, 105, 109]⟩ 5 2 0 W
  rw [hf] at this
  exact this
theorem d_zim2 (hT : Tab w0 ∧ Kin w0) {s : St} (h : Cpu1 w0 w p s) {a : Int} (hx : Rep (s.z 2).2 a) (ha : -2147483648 ≤ a ∧ a ≤ 2147483647) :
    Calls Tryd.prog 16 #[.pointer (some ⟨p, 0, none⟩), instV 34 5 2 0 0, .int .i32 0, .slice none 0 0, .int .i64 0] w fun e w' => e = .returned (effV 0 0 0) ∧ Cpu1 w0 w' p { s with r := upd s.r 5 a } := by
  have hc : checkN 34 ((5 : Nat) : Int) ((2 : Nat) : Int) 0 0 = 0 := by decide +kernel
  exact Do_any (word := 0) (fr := 0) hT h (.slice none 0 0) hc (by omega) fun ks W hK hC => do_zim hC (by decide) (by decide) 0 0 0 0 (.slice none 0 0) (by decide) hx ha
theorem parts_2 (hT : Tab w0 ∧ Kin w0) (h : GS w0 w p zz) (a b : Int) (hz : zz 2 = (a, b)) (ha : -2147483648 ≤ a ∧ a ≤ 2147483647) (hb : -2147483648 ≤ b ∧ b ≤ 2147483647) :
    Calls Tryd.prog 28 #[.pointer (some ⟨p, 0, none⟩), .int .i64 2] w fun e w' => e = .returned (.tuple #[.int .i32 a, .int .i32 b]) ∧ GS w0 w' p zz := by
  obtain ⟨s, h1, h2⟩ := h
  have hR := h2 2 (by decide)
  rw [hz] at hR
  have hS := Hid.intro h1
  have d1 := Hid.intro (fun (W : World) (h : Cpu1 w0 W p s) => d_zre2 hT h hR.1 ha)
  have d2 := Hid.intro (fun (W : World) (h : Cpu1 w0 W p { s with r := upd s.r 4 a }) => d_zim2 hT h hR.2 hb)
  have g1 := Hid.intro (fun (W : World) (h : Cpu1 w0 W p { s with r := upd (upd s.r 4 a) 5 b }) => (show Calls Tryd.prog 11 #[.pointer (some ⟨p, 0, none⟩), .int .i64 4] W (fun e w' => e = .returned (.int .i32 a) ∧ w' = W) from reg_any h (k := 4) (by decide)))
  have g2 := Hid.intro (fun (W : World) (h : Cpu1 w0 W p { s with r := upd (upd s.r 4 a) 5 b }) => (show Calls Tryd.prog 11 #[.pointer (some ⟨p, 0, none⟩), .int .i64 5] W (fun e w' => e = .returned (.int .i32 b) ∧ w' = W) from reg_any h (k := 5) (by decide)))
  have h2H := Hid.intro h2
  clear h1 h2 ha hb hR hz
  go_enter Tryd.func28, Tryd.ntmps28
  go_wp2_with (first
    | (go_at_call 15; first | ((with_reducible refine (o_zre2 _).mono ?_); rintro e w1 ⟨rfl, hb1⟩; replace hS := Hid.intro (hS.out.below hb1); clear hb1) | ((with_reducible refine (o_zim2 _).mono ?_); rintro e w1 ⟨rfl, hb1⟩; replace hS := Hid.intro (hS.out.below hb1); clear hb1))
    | (go_at_call 16; first | ((refine (d1.out _ hS.out).mono ?_); rintro e w1 ⟨rfl, hS1⟩; replace hS := Hid.intro hS1; clear hS1 d1) | ((refine (d2.out _ hS.out).mono ?_); rintro e w1 ⟨rfl, hS1⟩; replace hS := Hid.intro hS1; clear hS1 d2))
    | (go_at_call 11; first | ((with_reducible refine (g1.out _ hS.out).mono ?_); rintro e w1 ⟨rfl, rfl⟩) | ((with_reducible refine (g2.out _ hS.out).mono ?_); rintro e w1 ⟨rfl, rfl⟩)))
  refine bodyPost_ret (by simp [results, Tryd.results28, go_sem]; try rfl) rfl ⟨rfl, _, hS.out, h2H.out.same rfl⟩
end
end Go.Proofs.YtlchefdddgbohaaDoor
