/- cpuFull: the walk. -/
import Derived.Test.YtlchefdddgbohaaDoorDoP
import Derived.Test.YtlchefdddgbohaaDoorTw
import Derived.Test.YtlchefdddgbohaaDoorKn
namespace Go.Proofs.YtlchefdddgbohaaDoor
open Go.ChangeShapes Go.WideShapes Go.ChangeAt Go.RowKit
set_option linter.unusedVariables false
set_option linter.unusedSimpArgs false
set_option maxRecDepth 100000
/-- a Cpu that has so many prints and entries -/
def Fl (w0 w : World) (p : Nat) (i j : Nat) : Prop := ∃ s, Cpu1 w0 w p s ∧ s.out.length = i ∧ s.stk.length = j
section
variable {w0 w w' : World} {p i j : Nat}
theorem Fl.below (h : Fl w0 w p i j) (hb : Below w.heap.size w w') : Fl w0 w' p i j := by
  obtain ⟨s, h1, h2⟩ := h
  exact ⟨s, h1.below hb, h2⟩
theorem Fl.bel (h : Fl w0 w p i j) : Below w0.heap.size w0 w := by
  obtain ⟨s, h1, h2⟩ := h
  exact h1.1
theorem fl_fresh (w : World) : Calls Tryd.prog 10 #[.slice none 0 0] w fun e w' => ∃ p, e = .returned (.tuple #[.pointer (some ⟨p, 0, none⟩), .bool true]) ∧ Fl w w' p 0 0 :=
  (fresh_any none 0 [] (by simp) (by simp) (fun _ => rfl) w (.inl ⟨rfl, rfl, rfl⟩)).mono fun e w' ⟨p, he, h⟩ => ⟨p, he, _, h, rfl, rfl⟩
theorem fl_known (hT : Tab w0 ∧ Kin w0) (h : Fl w0 w p i j) : Calls Tryd.prog 17 #[] w fun e w' => e = .returned (.bool true) ∧ Fl w0 w' p i j := by
  obtain ⟨s, h1, h2⟩ := id h
  exact (known_any w (h1.tabs hT)).mono fun e w' ⟨he, hb⟩ => ⟨he, h.below hb⟩
theorem o_print (W : World) : Calls Tryd.prog 15 #[.string ⟨#[112, 114, 105, 110, 116]⟩, .int .i64 0, .int .i64 0, .int .i32 0] W fun e w' => e = .returned (instV 4 0 0 0 0) ∧ Below W.heap.size W w' := by
  have hf : findN (nm ⟨#[112, 114, 105, 110, 116]⟩) = 4 := by decide +kernel
  have := op_any ⟨#[112, 114, 105, 110, 116]⟩ 0 0 0 W
  rw [hf] at this
  exact this
theorem o_push (W : World) : Calls Tryd.prog 15 #[.string ⟨#[112, 117, 115, 104]⟩, .int .i64 0, .int .i64 0, .int .i32 0] W fun e w' => e = .returned (instV 6 0 0 0 0) ∧ Below W.heap.size W w' := by
  have hf : findN (nm ⟨#[112, 117, 115, 104]⟩) = 6 := by decide +kernel
  have := op_any ⟨#[112, 117, 115, 104]⟩ 0 0 0 W
  rw [hf] at this
  exact this
theorem d_print (hT : Tab w0 ∧ Kin w0) (h : Fl w0 w p i j) (hi : i < 4096) :
    Calls Tryd.prog 16 #[.pointer (some ⟨p, 0, none⟩), instV 4 0 0 0 0, .int .i32 0, .slice none 0 0, .int .i64 0] w fun e w' => e = .returned (effV 0 0 0) ∧ Fl w0 w' p (i + 1) j := by
  obtain ⟨s, h1, h2, h3⟩ := h
  have hc : checkN 4 ((0 : Nat) : Int) ((0 : Nat) : Int) 0 0 = 0 := by decide +kernel
  refine (Do_any (word := 0) (fr := 0) hT h1 (.slice none 0 0) hc (by omega) fun ks W hK hC => do_print_yes hC (by decide) (by decide) 0 0 0 0 (.slice none 0 0) (by omega)).mono ?_
  rintro e w' ⟨rfl, hC⟩
  exact ⟨rfl, _, hC, by simp [h2], h3⟩
theorem d_print0 (hT : Tab w0 ∧ Kin w0) (h : Fl w0 w p 4096 j) :
    Calls Tryd.prog 16 #[.pointer (some ⟨p, 0, none⟩), instV 4 0 0 0 0, .int .i32 0, .slice none 0 0, .int .i64 0] w fun e w' => e = .returned (effV 6 7 0) ∧ Fl w0 w' p 4096 j := by
  obtain ⟨s, h1, h2, h3⟩ := h
  have hc : checkN 4 ((0 : Nat) : Int) ((0 : Nat) : Int) 0 0 = 0 := by decide +kernel
  refine (Do_any (word := 0) (fr := 0) hT h1 (.slice none 0 0) hc (by omega) fun ks W hK hC => do_print_no hC (by decide) (by decide) 0 0 0 0 (.slice none 0 0) h2).mono ?_
  rintro e w' ⟨rfl, hC⟩
  exact ⟨rfl, _, hC, h2, h3⟩
theorem d_push (hT : Tab w0 ∧ Kin w0) (h : Fl w0 w p i j) (hi : j < 256) :
    Calls Tryd.prog 16 #[.pointer (some ⟨p, 0, none⟩), instV 6 0 0 0 0, .int .i32 0, .slice none 0 0, .int .i64 0] w fun e w' => e = .returned (effV 0 0 0) ∧ Fl w0 w' p i (j + 1) := by
  obtain ⟨s, h1, h2, h3⟩ := h
  have hc : checkN 6 ((0 : Nat) : Int) ((0 : Nat) : Int) 0 0 = 0 := by decide +kernel
  refine (Do_any (word := 0) (fr := 0) hT h1 (.slice none 0 0) hc (by omega) fun ks W hK hC => do_push_yes hC (by decide) (by decide) 0 0 0 0 (.slice none 0 0) (by omega)).mono ?_
  rintro e w' ⟨rfl, hC⟩
  exact ⟨rfl, _, hC, h2, by simp [h3]⟩
theorem d_push0 (hT : Tab w0 ∧ Kin w0) (h : Fl w0 w p i 256) :
    Calls Tryd.prog 16 #[.pointer (some ⟨p, 0, none⟩), instV 6 0 0 0 0, .int .i32 0, .slice none 0 0, .int .i64 0] w fun e w' => e = .returned (effV 6 4 0) ∧ Fl w0 w' p i 256 := by
  obtain ⟨s, h1, h2, h3⟩ := h
  have hc : checkN 6 ((0 : Nat) : Int) ((0 : Nat) : Int) 0 0 = 0 := by decide +kernel
  refine (Do_any (word := 0) (fr := 0) hT h1 (.slice none 0 0) hc (by omega) fun ks W hK hC => do_push_no hC (by decide) (by decide) 0 0 0 0 (.slice none 0 0) h3).mono ?_
  rintro e w' ⟨rfl, hC⟩
  exact ⟨rfl, _, hC, h2, h3⟩
theorem trace_any {s : St} (h : Cpu1 w0 w p s) (hl : s.out.length ≤ 4096) : Calls Tryd.prog 12 #[.pointer (some ⟨p, 0, none⟩)] w fun e w' => Below w.heap.size w w' ∧ ∃ a c, e = .returned (.slice a s.out.length c) ∧ w'.ownsRow w.heap.size 21 1 (.slice a s.out.length c) s.out.length (rowI s.out) := by
  obtain ⟨_, ks, _, hC⟩ := h
  obtain ⟨cs, vs, vo, va, h1, h2, h3, h4, _⟩ := hC.mem
  obtain ⟨ao, co, rfl⟩ := own_slice h4
  have co' := (Joins.cell_of_block h1 269).trans h2.ou
  have hcl := Hid.intro (clone_any ao co s.out (by omega) (fun e => by
    subst e
    rcases h4.2 with ⟨h, _⟩ | ⟨g, cap, cur, h, _⟩
    · injection h with e1 e2 e3
    · injection h with e1 e2 e3
      cases e1) w (own_src h4))
  generalize hn : s.out.length = n at *
  clear h1 h2 h3 h4 hC
  go_enter Tryd.func12, Tryd.ntmps12
  go_wp2_with (go_at_call 29; (with_reducible refine hcl.out.mono ?_); rintro e w1 ⟨hb1, v, rfl, ho⟩; obtain ⟨a1, c1, rfl⟩ := own_slice ho; replace ho := Hid.intro ho; replace hb1 := Hid.intro hb1)
  go_ret
  exact ⟨hb1.out, _, _, rfl, ho.out⟩
theorem depth_any {s : St} (h : Cpu1 w0 w p s) : Calls Tryd.prog 13 #[.pointer (some ⟨p, 0, none⟩)] w fun e w' => e = .returned (.int .i64 (s.stk.length : Int)) ∧ w' = w := by
  obtain ⟨_, ks, _, hC⟩ := h
  obtain ⟨cs, vs, vo, va, h1, h2, h3, h4, _⟩ := hC.mem
  obtain ⟨ao, co, rfl⟩ := own_slice h3
  have co' := (Joins.cell_of_block h1 268).trans h2.st
  generalize hn : s.stk.length = n at *
  clear h1 h2 h3 h4 hC
  go_enter Tryd.func13, Tryd.ntmps13
  go_wp2
  go_ret
  exact ⟨rfl, rfl⟩
end
end Go.Proofs.YtlchefdddgbohaaDoor
