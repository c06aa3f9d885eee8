/- cpuDivides: the walk. -/
import Derived.Test.YtlchefdddgbohaaDoorRg
import Derived.Test.YtlchefdddgbohaaDoorDoV
import Derived.Test.YtlchefdddgbohaaDoorKn
namespace Go.Proofs.YtlchefdddgbohaaDoor
open Go.ChangeShapes Go.WideShapes Go.ChangeAt Go.RowKit
set_option linter.unusedVariables false
set_option linter.unusedSimpArgs false
set_option maxRecDepth 100000
section
variable {w0 w : World} {p : Nat} {x y : Int}
theorem fresh_nil2 (w : World) : Calls Tryd.prog 10 #[.slice none 0 0] w fun e w' => ∃ p, e = .returned (.tuple #[.pointer (some ⟨p, 0, none⟩), .bool true]) ∧ R12 w w' p 0 0 :=
  (fresh_any none 0 [] (by simp) (by simp) (fun _ => rfl) w (.inl ⟨rfl, rfl, rfl⟩)).mono fun e w' ⟨p, he, h⟩ => ⟨p, he, _, h, rfl, rfl⟩
theorem known_r2 (hT : Tab w0 ∧ Kin w0) {w : World} {x y : Int} (h : R12 w0 w p x y) : Calls Tryd.prog 17 #[] w fun e w' => e = .returned (.bool true) ∧ R12 w0 w' p x y :=
  (known_any w (h.tabs hT)).mono fun e w' ⟨he, hb⟩ => ⟨he, h.below hb⟩
theorem o_div (W : World) : Calls Tryd.prog 15 #[.string ⟨#[100, 105, 118]⟩, .int .i64 1, .int .i64 2, .int .i32 0] W fun e w' => e = .returned (instV 17 1 2 0 0) ∧ Below W.heap.size W w' := by
  have hf : findN (nm ⟨#[100, 105, 118]⟩) = 17 := by decide +kernel
  have := op_any ⟨#[100, 105, 118]⟩ 1 2 0 W
  rw [hf] at this
  exact this
theorem d_div (hT : Tab w0 ∧ Kin w0) (h : R12 w0 w p x y) (hy : y ≠ 0) :
    Calls Tryd.prog 16 #[.pointer (some ⟨p, 0, none⟩), instV 17 1 2 0 0, .int .i32 0, .slice none 0 0, .int .i64 0] w fun e w' => e = .returned (effV 0 0 0) ∧ R12 w0 w' p (divN x y) y := by
  obtain ⟨s, h1, h2, h3⟩ := h
  have hc : checkN 17 ((1 : Nat) : Int) ((2 : Nat) : Int) 0 0 = 0 := by decide +kernel
  refine (Do_any (word := 0) (fr := 0) hT h1 (.slice none 0 0) hc (by omega) fun ks W hK hC => do_div_yes hC (by decide) (by decide) 0 0 0 0 (.slice none 0 0) (by rw [h3]; exact hy)).mono ?_
  rintro e w' ⟨rfl, hC⟩
  refine ⟨rfl, _, hC, ?_, ?_⟩
  · show upd s.r 1 (divN (s.r 1) (s.r 2)) 1 = _
    unfold upd
    rw [if_pos rfl, h2, h3]
  · show upd s.r 1 (divN (s.r 1) (s.r 2)) 2 = _
    unfold upd
    rw [if_neg (by decide), h3]
theorem d_div0 (hT : Tab w0 ∧ Kin w0) (h : R12 w0 w p x 0) :
    Calls Tryd.prog 16 #[.pointer (some ⟨p, 0, none⟩), instV 17 1 2 0 0, .int .i32 0, .slice none 0 0, .int .i64 0] w fun e w' => e = .returned (effV 6 2 0) ∧ R12 w0 w' p x 0 := by
  obtain ⟨s, h1, h2, h3⟩ := h
  have hc : checkN 17 ((1 : Nat) : Int) ((2 : Nat) : Int) 0 0 = 0 := by decide +kernel
  refine (Do_any (word := 0) (fr := 0) hT h1 (.slice none 0 0) hc (by omega) fun ks W hK hC => do_div_no hC (by decide) (by decide) 0 0 0 0 (.slice none 0 0) h3).mono ?_
  rintro e w' ⟨rfl, hC⟩
  exact ⟨rfl, s, hC, h2, h3⟩
theorem li1 (hT : Tab w0 ∧ Kin w0) (h : R12 w0 w p x y) {a : Int} (ha : -2147483648 ≤ a ∧ a ≤ 2147483647) :
    Calls Tryd.prog 16 #[.pointer (some ⟨p, 0, none⟩), instV 38 1 0 a 0, .int .i32 0, .slice none 0 0, .int .i64 0] w fun e w' => e = .returned (effV 0 0 0) ∧ R12 w0 w' p a y := by
  obtain ⟨s, h1, h2, h3⟩ := h
  refine (li_do hT 1 (by decide) a ha w h1).mono ?_
  rintro e w' ⟨rfl, hC⟩
  refine ⟨rfl, _, hC, ?_, ?_⟩
  · show upd s.r 1 a 1 = _
    unfold upd
    rw [if_pos rfl]
  · show upd s.r 1 a 2 = _
    unfold upd
    rw [if_neg (by decide), h3]
theorem li2 (hT : Tab w0 ∧ Kin w0) (h : R12 w0 w p x y) {a : Int} (ha : -2147483648 ≤ a ∧ a ≤ 2147483647) :
    Calls Tryd.prog 16 #[.pointer (some ⟨p, 0, none⟩), instV 38 2 0 a 0, .int .i32 0, .slice none 0 0, .int .i64 0] w fun e w' => e = .returned (effV 0 0 0) ∧ R12 w0 w' p x a := by
  obtain ⟨s, h1, h2, h3⟩ := h
  refine (li_do hT 2 (by decide) a ha w h1).mono ?_
  rintro e w' ⟨rfl, hC⟩
  refine ⟨rfl, _, hC, ?_, ?_⟩
  · show upd s.r 2 a 1 = _
    unfold upd
    rw [if_neg (by decide), h2]
  · show upd s.r 2 a 2 = _
    unfold upd
    rw [if_pos rfl]
/-- a division that is cut off towards 0 -/
theorem div_rest (a b : Int) (hb : b ≠ 0) : a.tdiv b * b = a - a.tmod b ∧ (a.tmod b).natAbs < b.natAbs ∧ (0 ≤ a → 0 ≤ a.tmod b) ∧ (a ≤ 0 → a.tmod b ≤ 0) := by
  have h1 := Int.tmod_def a b
  have h1' : a.tdiv b * b = b * a.tdiv b := Int.mul_comm _ _
  refine ⟨by omega, ?_, fun h => Int.tmod_nonneg b h, fun h => ?_⟩
  · rw [Int.natAbs_tmod]
    exact Nat.mod_lt _ (by omega)
  · have h2 := Int.tmod_nonneg b (a := -a) (by omega)
    rw [Int.neg_tmod] at h2
    omega
theorem q_rb (a b : Int) (ha : -2147483648 ≤ a ∧ a ≤ 2147483647) (hb : -2147483648 ≤ b ∧ b ≤ 2147483647) (hb0 : b ≠ 0) (hm : ¬ (a = -2147483648 ∧ b = -1)) : -2147483648 ≤ a.tdiv b ∧ a.tdiv b ≤ 2147483647 := by
  by_cases h1 : b = 1
  · subst h1
    rw [Int.tdiv_one]
    exact ha
  · by_cases h2 : b = -1
    · subst h2
      rw [Int.tdiv_neg, Int.tdiv_one]
      omega
    · have h3 := Int.natAbs_tdiv a b
      have h4 : 2 ≤ b.natAbs := by omega
      have h5 : a.natAbs / b.natAbs ≤ a.natAbs / 2 := Nat.div_le_div_left h4 (by decide)
      have h6 : (a.tdiv b).natAbs = a.natAbs / b.natAbs := h3
      omega
set_option maxHeartbeats 16000000 in
theorem cpuDividesW (a b : Int) (w : World) (hT : Tab w ∧ Kin w) (ha : -2147483648 ≤ a ∧ a ≤ 2147483647) (hb : -2147483648 ≤ b ∧ b ≤ 2147483647) :
    Calls Tryd.prog 7 #[.int .i32 a, .int .i32 b] w fun e w' => e = .returned (.bool true) ∧ Below w.heap.size w w' := by
  have F := Hid.intro (fresh_nil2 w)
  have L1 := Hid.intro (fun (p : Nat) (W : World) (x y : Int) (h : R12 w W p x y) => li1 hT h ha)
  have L2 := Hid.intro (fun (p : Nat) (W : World) (x y : Int) (h : R12 w W p x y) => li2 hT h hb)
  have G := Hid.intro (fun (p : Nat) (W : World) (x y : Int) (h : R12 w W p x y) => reg_r h)
  have K := Hid.intro (fun (p : Nat) (W : World) (x y : Int) (h : R12 w W p x y) => known_r2 hT h)
  by_cases hb0 : b = 0
  · subst hb0
    have DV := Hid.intro (fun (p : Nat) (W : World) (x : Int) (h : R12 w W p x 0) => d_div0 hT h)
    go_enter Tryd.func7, Tryd.ntmps7
    go_wp2_with (first
      | (go_at_call 10; (with_reducible refine F.out.mono ?_); rintro e w1 ⟨p, rfl, hS⟩; replace hS := Hid.intro hS)
      | (go_at_call 15; first | ((with_reducible refine (li_op _ _ _).mono ?_); rintro e w1 ⟨rfl, hb1⟩; replace hS := Hid.intro (hS.out.below hb1); clear hb1) | ((with_reducible refine (o_div _).mono ?_); rintro e w1 ⟨rfl, hb1⟩; replace hS := Hid.intro (hS.out.below hb1); clear hb1))
      | (go_at_call 16; first | ((with_reducible refine (L1.out _ _ _ _ hS.out).mono ?_); rintro e w1 ⟨rfl, hS1⟩; replace hS := Hid.intro hS1; clear hS1) | ((with_reducible refine (L2.out _ _ _ _ hS.out).mono ?_); rintro e w1 ⟨rfl, hS1⟩; replace hS := Hid.intro hS1; clear hS1) | ((with_reducible refine (DV.out _ _ _ hS.out).mono ?_); rintro e w1 ⟨rfl, hS1⟩; replace hS := Hid.intro hS1; clear hS1))
      | (go_at_call 11; first | ((with_reducible refine (G.out _ _ _ _ hS.out).mono ?_); rintro e w1 ⟨rfl, hS1⟩; replace hS := Hid.intro hS1; clear hS1) | ((with_reducible refine (G.out _ _ _ _ (hS.out.below (below_alloc _ _))).mono ?_); rintro e w1 ⟨rfl, hS1⟩; replace hS := Hid.intro hS1; clear hS1))
      | (go_at_call 17; first | ((with_reducible refine (K.out _ _ _ _ hS.out).mono ?_); rintro e w1 ⟨rfl, hS1⟩; replace hS := Hid.intro hS1; clear hS1) | ((with_reducible refine (K.out _ _ _ _ (hS.out.below (below_alloc _ _))).mono ?_); rintro e w1 ⟨rfl, hS1⟩; replace hS := Hid.intro hS1; clear hS1)))
    all_goals go_ret
    all_goals exact ⟨rfl, hS.out.bel⟩
  · have DV := Hid.intro (fun (p : Nat) (W : World) (x : Int) (h : R12 w W p x b) => d_div hT h hb0)
    by_cases hm : a = -2147483648 ∧ b = -1
    · obtain ⟨rfl, rfl⟩ := hm
      have hd : divN (-2147483648) (-1) = -2147483648 := by decide +kernel
      have DV1 := Hid.intro (fun (p : Nat) (W : World) (h : R12 w W p (-2147483648) (-1)) => by have := DV.out p W (-2147483648) h; rw [hd] at this; exact this)
      clear DV
      have DV := DV1
      clear DV1
      go_enter Tryd.func7, Tryd.ntmps7
      go_wp2_with (first
        | (go_at_call 10; (with_reducible refine F.out.mono ?_); rintro e w1 ⟨p, rfl, hS⟩; replace hS := Hid.intro hS)
        | (go_at_call 15; first | ((with_reducible refine (li_op _ _ _).mono ?_); rintro e w1 ⟨rfl, hb1⟩; replace hS := Hid.intro (hS.out.below hb1); clear hb1) | ((with_reducible refine (o_div _).mono ?_); rintro e w1 ⟨rfl, hb1⟩; replace hS := Hid.intro (hS.out.below hb1); clear hb1))
        | (go_at_call 16; first | ((with_reducible refine (L1.out _ _ _ _ hS.out).mono ?_); rintro e w1 ⟨rfl, hS1⟩; replace hS := Hid.intro hS1; clear hS1) | ((with_reducible refine (L2.out _ _ _ _ hS.out).mono ?_); rintro e w1 ⟨rfl, hS1⟩; replace hS := Hid.intro hS1; clear hS1) | ((with_reducible refine (DV.out _ _ hS.out).mono ?_); rintro e w1 ⟨rfl, hS1⟩; replace hS := Hid.intro hS1; clear hS1))
        | (go_at_call 11; first | ((with_reducible refine (G.out _ _ _ _ hS.out).mono ?_); rintro e w1 ⟨rfl, hS1⟩; replace hS := Hid.intro hS1; clear hS1) | ((with_reducible refine (G.out _ _ _ _ (hS.out.below (below_alloc _ _))).mono ?_); rintro e w1 ⟨rfl, hS1⟩; replace hS := Hid.intro hS1; clear hS1))
        | (go_at_call 17; first | ((with_reducible refine (K.out _ _ _ _ hS.out).mono ?_); rintro e w1 ⟨rfl, hS1⟩; replace hS := Hid.intro hS1; clear hS1) | ((with_reducible refine (K.out _ _ _ _ (hS.out.below (below_alloc _ _))).mono ?_); rintro e w1 ⟨rfl, hS1⟩; replace hS := Hid.intro hS1; clear hS1)))
      all_goals go_ret
      all_goals exact ⟨rfl, hS.out.bel⟩
    · obtain ⟨hq1, hq2⟩ := q_rb a b ha hb hb0 hm
      obtain ⟨r1, r2, r3, r4⟩ := div_rest a b hb0
      have hdv : divN a b = a.tdiv b := by
        unfold divN wrap32
        omega
      have DV1 := Hid.intro (fun (p : Nat) (W : World) (x : Int) (h : R12 w W p a b) => by have := DV.out p W a h; rw [hdv] at this; exact this)
      clear DV hdv
      have DV := Hid.intro (fun (p : Nat) (W : World) (h : R12 w W p a b) => DV1.out p W 0 h)
      clear DV1
      generalize a.tdiv b = q at *
      generalize a.tmod b = r at *
      have hr : -2147483648 ≤ r ∧ r ≤ 2147483648 := by omega
      have x0 : wrap64 q = q := by unfold wrap64; omega
      have x5 : wrap64 r = r := by unfold wrap64; omega
      have x1 : wrap64 (q * b) = a - r := by unfold wrap64; omega
      have x2 : wrap64 (a - (a - r)) = r := by unfold wrap64; omega
      have x3 : wrap64 (-r) = -r := by unfold wrap64; omega
      have x4 : wrap64 (-b) = -b := by unfold wrap64; omega
      clear r1
      by_cases ha1 : a = -2147483648
      all_goals by_cases hbn : b < 0
      all_goals rcases Int.lt_trichotomy r 0 with hrr | hrr | hrr
      all_goals first | (exfalso; omega) | skip
      all_goals try subst hrr
      all_goals first | (have k1 : a < 0 := by omega) | (have k1 : 0 < a := by omega) | skip
      all_goals first | (have k2 : r < b := by omega) | (have k2 : r < -b := by omega) | (have k2 : (0 : Int) < b := by omega) | (have k2 : (0 : Int) < -b := by omega)
      all_goals first | (have k3 : -r < b := by omega) | (have k3 : -r < -b := by omega) | skip
      all_goals first | (have k4 : ¬ r < 0 := by omega) | skip
      all_goals first | (have k5 : ¬ b = -1 := by omega) | skip
      all_goals clear r2 r3 r4 hr hq1 hq2 hm
      all_goals try subst ha1
      all_goals
        go_enter Tryd.func7, Tryd.ntmps7
        go_wp2_with (first
          | (go_at_call 10; (with_reducible refine F.out.mono ?_); rintro e w1 ⟨p, rfl, hS⟩; replace hS := Hid.intro hS)
          | (go_at_call 15; first | ((with_reducible refine (li_op _ _ _).mono ?_); rintro e w1 ⟨rfl, hb1⟩; replace hS := Hid.intro (hS.out.below hb1); clear hb1) | ((with_reducible refine (o_div _).mono ?_); rintro e w1 ⟨rfl, hb1⟩; replace hS := Hid.intro (hS.out.below hb1); clear hb1))
          | (go_at_call 16; first | ((with_reducible refine (L1.out _ _ _ _ hS.out).mono ?_); rintro e w1 ⟨rfl, hS1⟩; replace hS := Hid.intro hS1; clear hS1) | ((with_reducible refine (L2.out _ _ _ _ hS.out).mono ?_); rintro e w1 ⟨rfl, hS1⟩; replace hS := Hid.intro hS1; clear hS1) | ((with_reducible refine (DV.out _ _ hS.out).mono ?_); rintro e w1 ⟨rfl, hS1⟩; replace hS := Hid.intro hS1; clear hS1))
          | (go_at_call 11; first | ((with_reducible refine (G.out _ _ _ _ hS.out).mono ?_); rintro e w1 ⟨rfl, hS1⟩; replace hS := Hid.intro hS1; clear hS1) | ((with_reducible refine (G.out _ _ _ _ (hS.out.below (below_alloc _ _))).mono ?_); rintro e w1 ⟨rfl, hS1⟩; replace hS := Hid.intro hS1; clear hS1))
          | (go_at_call 17; first | ((with_reducible refine (K.out _ _ _ _ hS.out).mono ?_); rintro e w1 ⟨rfl, hS1⟩; replace hS := Hid.intro hS1; clear hS1) | ((with_reducible refine (K.out _ _ _ _ (hS.out.below (below_alloc _ _))).mono ?_); rintro e w1 ⟨rfl, hS1⟩; replace hS := Hid.intro hS1; clear hS1)))
      all_goals go_ret
      all_goals exact ⟨rfl, hS.out.bel⟩
end
end Go.Proofs.YtlchefdddgbohaaDoor
