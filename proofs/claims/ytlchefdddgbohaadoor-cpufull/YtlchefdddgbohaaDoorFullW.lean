/- cpuFull: the walk. -/
import Derived.Test.YtlchefdddgbohaaDoorFl
import Derived.Test.YtlchefdddgbohaaDoorLw2
namespace Go.Proofs.YtlchefdddgbohaaDoor
open Go.ChangeShapes Go.WideShapes Go.ChangeAt Go.RowKit
set_option linter.unusedVariables false
set_option linter.unusedSimpArgs false
set_option maxRecDepth 100000
/-- a Cpu that is full, and a block that it doesn't own -/
def FB (w0 w : World) (p B : Nat) : Prop := ∃ s ks, Below w0.heap.size w0 w ∧ (∀ g, ks g → w0.heap.size ≤ g) ∧ CpuAt LP ks w p s ∧ s.out.length = 4096 ∧ s.stk.length = 256 ∧ ¬ ks B ∧ w.heap[B]? = some (.cells #[.int .i64 6, .int .i64 7, .int .u32 0] 40 (0, 0))
theorem FB.below {w0 w w' : World} {p B : Nat} (h : FB w0 w p B) (hb : Below w.heap.size w w') : FB w0 w' p B := by
  obtain ⟨s, ks, h1, h2, h3, h4, h5, h6, h7⟩ := h
  exact ⟨s, ks, h1.trans (hb.mono h1.size), h2, h3.below hb, h4, h5, h6, (hb.block _ (wblk_lt h7)).trans h7⟩
theorem FB.fl {w0 w : World} {p B : Nat} (h : FB w0 w p B) : Fl w0 w p 4096 256 := by
  obtain ⟨s, ks, h1, h2, h3, h4, h5, _⟩ := h
  exact ⟨s, ⟨h1, ks, h2, h3⟩, h4, h5⟩
theorem FB.new {w0 w : World} {p : Nat} (h : Fl w0 w p 4096 256) : FB w0 (w.alloc (.cells #[.int .i64 6, .int .i64 7, .int .u32 0] 40)) p w.heap.size := by
  obtain ⟨s, ⟨h1, ks, h2, h3⟩, h4, h5⟩ := h
  exact ⟨s, ks, h1.alloc h1.size _, h2, h3.alloc _, h4, h5, fun hk => by have := h3.kl _ hk; omega, heap_alloc_new w _⟩
theorem FB.push {w0 w : World} {p B : Nat} (hT : Tab w0 ∧ Kin w0) (h : FB w0 w p B) :
    Calls Tryd.prog 16 #[.pointer (some ⟨p, 0, none⟩), instV 6 0 0 0 0, .int .i32 0, .slice none 0 0, .int .i64 0] w fun e w' => e = .returned (effV 6 4 0) ∧ FB w0 w' p B := by
  have hTw : Tab w ∧ Kin w := by
    obtain ⟨s, ks, h1, _⟩ := h
    exact ⟨hT.1.below h1 hT.1.size, hT.2.below (by have := hT.1.size; omega) h1⟩
  obtain ⟨s, ks, h1, h2, h3, h4, h5, h6, h7⟩ := h
  have hc : checkN 6 ((0 : Nat) : Int) ((0 : Nat) : Int) 0 0 = 0 := by decide +kernel
  refine (Do_full (word := 0) (fr := 0) hTw h3 (.slice none 0 0) hc (by omega) fun ks W hK hC => do_push_no hC (by decide) (by decide) 0 0 0 0 (.slice none 0 0) h5).mono ?_
  rintro e w' ⟨rfl, hm, ks', hmo, hC⟩
  refine ⟨rfl, s, ks', h1.trans (hm.below h2 h1.size), fun g hg => ?_, hC, h4, h5, fun hk => ?_, (hm.block _ (wblk_lt h7) h6).trans h7⟩
  · rcases hmo.2 g hg with h | h
    · exact h2 g h
    · exact Nat.le_trans h1.size h
  · rcases hmo.2 B hk with h | h
    · exact h6 h
    · have := wblk_lt h7; omega
theorem FB.cell {w0 w : World} {p B : Nat} (h : FB w0 w p B) (o : Obj) : B < w.heap.size ∧ (w.alloc o).cell? ⟨B, 0, none⟩ = some (.int .i64 6) ∧ (w.alloc o).cell? ⟨B, 1, none⟩ = some (.int .i64 7) ∧ (w.alloc o).cell? ⟨B, 2, none⟩ = some (.int .u32 0) := by
  obtain ⟨s, ks, h1, h2, h3, h4, h5, h6, h7⟩ := h
  have h8 := ((below_alloc w o).block _ (wblk_lt h7)).trans h7
  exact ⟨wblk_lt h7, (Joins.cell_of_block h8 0).trans rfl, (Joins.cell_of_block h8 1).trans rfl, (Joins.cell_of_block h8 2).trans rfl⟩
theorem fl_trace {w0 w : World} {p j : Nat} (h : Fl w0 w p 4096 j) : Calls Tryd.prog 12 #[.pointer (some ⟨p, 0, none⟩)] w fun e w' => ∃ a c, e = .returned (.slice a 4096 c) ∧ Fl w0 w' p 4096 j := by
  obtain ⟨s, h1, h2, h3⟩ := id h
  refine (trace_any h1 (by omega)).mono ?_
  rintro e w' ⟨hb, a, c, rfl, _⟩
  rw [h2]
  exact ⟨a, c, rfl, h.below hb⟩
theorem fl_depth {w0 w : World} {p i : Nat} (h : Fl w0 w p i 256) : Calls Tryd.prog 13 #[.pointer (some ⟨p, 0, none⟩)] w fun e w' => e = .returned (.int .i64 256) ∧ Fl w0 w' p i 256 := by
  obtain ⟨s, h1, h2, h3⟩ := id h
  refine (depth_any h1).mono ?_
  rintro e w' ⟨rfl, rfl⟩
  rw [h3]
  exact ⟨rfl, h⟩
set_option maxHeartbeats 16000000 in
theorem cpuFullW (w : World) (hT : Tab w ∧ Kin w) : Calls Tryd.prog 4 #[] w fun e w' => e = .returned (.bool true) ∧ Below w.heap.size w w' := by
  have F := Hid.intro (fl_fresh w)
  have DP := Hid.intro (fun (p i j : Nat) (W : World) (h : Fl w W p i j) (hi : i < 4096) => d_print hT h hi)
  have DP0 := Hid.intro (fun (p j : Nat) (W : World) (h : Fl w W p 4096 j) => d_print0 hT h)
  have DU := Hid.intro (fun (p i j : Nat) (W : World) (h : Fl w W p i j) (hi : j < 256) => d_push hT h hi)
  have DU0 := Hid.intro (fun (p i : Nat) (W : World) (h : Fl w W p i 256) => d_push0 hT h)
  have K := Hid.intro (fun (p i j : Nat) (W : World) (h : Fl w W p i j) => fl_known hT h)
  have TR := Hid.intro (fun (p j : Nat) (W : World) (h : Fl w W p 4096 j) => fl_trace h)
  have DE := Hid.intro (fun (p i : Nat) (W : World) (h : Fl w W p i 256) => fl_depth h)
  go_enter Tryd.func4, Tryd.ntmps4
  go_wp2_with (go_at_call 10; (with_reducible refine F.out.mono ?_); rintro e w1 ⟨p, rfl, hS⟩; replace hS := Hid.intro hS)
  go_loopw [3] (fun v3 wr => ∃ i : Nat, i ≤ 4096 ∧ v3 = .int .i64 (i : Int) ∧ Hid (Fl w wr p i 0)) (fun v3 _ => 4096 - (intOf v3).toNat)
  case atStart => exact ⟨0, by omega, by first | rfl | go_num, hS⟩
  case round =>
    obtain ⟨i, hi, rfl, hF⟩ := hrel
    by_cases hin : i < 4096
    · have hin' : (i : Int) < 4096 := by omega
      go_wp2_with (first
        | (go_at_call 15; (with_reducible refine (o_print _).mono ?_); rintro e w2 ⟨rfl, hb1⟩; replace hF := Hid.intro (hF.out.below hb1); clear hb1)
        | (go_at_call 16; (with_reducible refine (DP.out _ _ _ _ hF.out hin).mono ?_); rintro e w2 ⟨rfl, hF1⟩; replace hF := Hid.intro hF1; clear hF1))
      all_goals first | omega | skip
      go_roundw
      case rel => exact ⟨i + 1, by omega, by go_num, hF⟩
      case measure => simp [intOf]; omega
    · have hi4 : i = 4096 := by omega
      have hF4 : Hid (Fl w wr p 4096 0) := by rw [hi4] at hF; exact hF
      have hiI : ¬ (i : Int) < 4096 := by omega
      clear hi hin DP hF hi4
      have hF := hF4
      clear hF4
      go_wp2
      go_loopw [4] (fun v4 wr => ∃ j : Nat, j ≤ 256 ∧ v4 = .int .i64 (j : Int) ∧ Hid (Fl w wr p 4096 j)) (fun v4 _ => 256 - (intOf v4).toNat)
      case atStart => exact ⟨0, by omega, by first | rfl | go_num, hF⟩
      case round =>
        obtain ⟨j, hj, rfl, hG⟩ := hrel
        by_cases hjn : j < 256
        · have hjn' : (j : Int) < 256 := by omega
          go_wp2_with (first
            | (go_at_call 15; (with_reducible refine (o_push _).mono ?_); rintro e w2 ⟨rfl, hb1⟩; replace hG := Hid.intro (hG.out.below hb1); clear hb1)
            | (go_at_call 16; (with_reducible refine (DU.out _ _ _ _ hG.out hjn).mono ?_); rintro e w2 ⟨rfl, hF1⟩; replace hG := Hid.intro hF1; clear hF1))
          all_goals first | omega | skip
          go_roundw
          case rel => exact ⟨j + 1, by omega, by go_num, hG⟩
          case measure => simp [intOf]; omega
        · have hj4 : j = 256 := by omega
          have hG4 : Hid (Fl w wr p 4096 256) := by rw [hj4] at hG; exact hG
          have hjI : ¬ (j : Int) < 256 := by omega
          clear hj hjn DU hG hj4
          have hG := hG4
          clear hG4
          have DUB := Hid.intro (fun (p B : Nat) (W : World) (h : FB w W p B) => FB.push hT h)
          have TRB := Hid.intro (fun (p B : Nat) (W : World) (h : FB w W p B) => fl_trace h.fl)
          go_wp2_with (first
            | (go_at_call 15; first | ((with_reducible refine (o_print _).mono ?_); rintro e w2 ⟨rfl, hb1⟩; replace hG := Hid.intro (hG.out.below hb1); clear hb1) | ((with_reducible refine (o_push _).mono ?_); rintro e w3 ⟨rfl, hb1⟩; have hB := Hid.intro ((FB.new hG.out).below hb1); clear hb1))
            | (go_at_call 16; first | ((with_reducible refine (DP0.out _ _ _ hG.out).mono ?_); rintro e w2 ⟨rfl, hF1⟩; replace hG := Hid.intro hF1; clear hF1 DP0) | ((with_reducible refine (DUB.out _ _ _ hB.out).mono ?_); rintro e w4 ⟨rfl, hF1⟩; obtain ⟨bl, b0, b1, b2⟩ := hF1.cell (.cells #[.int .i64 6, .int .i64 4, .int .u32 0] 40); have hneB : ¬ w2.heap.size = w4.heap.size := (by omega); have hG := Hid.intro (hF1.fl.below (below_alloc _ (.cells #[.int .i64 6, .int .i64 4, .int .u32 0] 40))); clear hF1 hB))
            | (go_at_call 12; (with_reducible refine (TR.out _ _ _ hG.out).mono ?_); rintro e w5 ⟨a, c, rfl, hF1⟩; replace hG := Hid.intro hF1; clear hF1)
            | (go_at_call 13; (with_reducible refine (DE.out _ _ _ hG.out).mono ?_); rintro e w5 ⟨rfl, hF1⟩; replace hG := Hid.intro hF1; clear hF1)
            | (go_at_call 17; (with_reducible refine (K.out _ _ _ _ hG.out).mono ?_); rintro e w5 ⟨rfl, hF1⟩; replace hG := Hid.intro hF1; clear hF1))
          all_goals first | omega | skip
          go_ret
          exact ⟨rfl, hG.out.bel⟩
end Go.Proofs.YtlchefdddgbohaaDoor
