/- cpuGauss: the walk. -/
import Derived.Test.YtlchefdddgbohaaDoorG4
namespace Go.Proofs.YtlchefdddgbohaaDoor
open Go.ChangeShapes Go.WideShapes Go.ChangeAt Go.RowKit
set_option linter.unusedVariables false
set_option linter.unusedSimpArgs false
set_option maxRecDepth 100000
open PlainF
theorem bounds_i16 {n : Int} (h : (Lit.int .i16 n).wf = true) : -32768 ≤ n ∧ n ≤ 32767 := by
  simp [Lit.wf, IntKind.min, IntKind.max, IntKind.signed, IntKind.bits] at h
  omega
theorem half_small {p : Int} (h : -32768 ≤ p ∧ p ≤ 32767) : (p.tdiv 2).natAbs ≤ 16384 := by
  have h1 := Int.natAbs_tdiv p 2
  have h2 : (p.tdiv 2).natAbs = p.natAbs / 2 := h1
  omega
theorem small_mul2 {a b : Int} (ha : a.natAbs ≤ 16384) (hb : b.natAbs ≤ 16384) : (a * b).natAbs ≤ 268435456 := by
  rw [Int.natAbs_mul]
  exact Nat.mul_le_mul ha hb
theorem two16 {x : Int} (h : x.natAbs ≤ 16384) : -16384 ≤ x ∧ x ≤ 16384 := by omega
theorem wrap32_of {x : Int} (h : x.natAbs ≤ 2147483647) : wrap32 x = x := by
  unfold wrap32
  omega
/-- turned i times -/
def tn (a b : Int) : Nat → Pr
  | 0 => (a, b)
  | i + 1 => (-(tn a b i).2, (tn a b i).1)
theorem tn4 (a b : Int) : tn a b 4 = (a, b) := by simp [tn]
set_option maxHeartbeats 16000000 in
theorem cpuGaussW (p q r s : Int) (w : World) (hT : Tab w ∧ Kin w) (hp : -32768 ≤ p ∧ p ≤ 32767) (hq : -32768 ≤ q ∧ q ≤ 32767) (hr : -32768 ≤ r ∧ r ≤ 32767) (hs : -32768 ≤ s ∧ s ≤ 32767) :
    Calls Tryd.prog 8 #[.int .i16 p, .int .i16 q, .int .i16 r, .int .i16 s] w fun e w' => e = .returned (.bool true) ∧ Below w.heap.size w w' := by
  obtain ⟨a, ea⟩ : ∃ a, a = p.tdiv 2 := ⟨_, rfl⟩
  obtain ⟨b, eb⟩ : ∃ b, b = q.tdiv 2 := ⟨_, rfl⟩
  obtain ⟨c, ec⟩ : ∃ c, c = r.tdiv 2 := ⟨_, rfl⟩
  obtain ⟨d, ed⟩ : ∃ d, d = s.tdiv 2 := ⟨_, rfl⟩
  have ba := half_small hp
  have bb := half_small hq
  have bc := half_small hr
  have bd := half_small hs
  rw [← ea] at ba
  rw [← eb] at bb
  rw [← ec] at bc
  rw [← ed] at bd
  have mac := small_mul2 ba bc
  have mbd := small_mul2 bb bd
  have mad := small_mul2 ba bd
  have mbc := small_mul2 bb bc
  have maa := small_mul2 ba ba
  have mbb := small_mul2 bb bb
  have ba' : -16384 ≤ a ∧ a ≤ 16384 := two16 ba
  have bb' : -16384 ≤ b ∧ b ≤ 16384 := two16 bb
  have bc' : -16384 ≤ c ∧ c ≤ 16384 := two16 bc
  have bd' : -16384 ≤ d ∧ d ≤ 16384 := two16 bd
  have mac' : -268435456 ≤ a * c ∧ a * c ≤ 268435456 := by
    have h := mac
    clear ba bb bc bd mac mbd mad mbc maa mbb
    generalize a * c = u at *
    omega
  have mbd' : -268435456 ≤ b * d ∧ b * d ≤ 268435456 := by
    have h := mbd
    clear ba bb bc bd mac mbd mad mbc maa mbb
    generalize b * d = u at *
    omega
  have mad' : -268435456 ≤ a * d ∧ a * d ≤ 268435456 := by
    have h := mad
    clear ba bb bc bd mac mbd mad mbc maa mbb
    generalize a * d = u at *
    omega
  have mbc' : -268435456 ≤ b * c ∧ b * c ≤ 268435456 := by
    have h := mbc
    clear ba bb bc bd mac mbd mad mbc maa mbb
    generalize b * c = u at *
    omega
  have maa' : -268435456 ≤ a * a ∧ a * a ≤ 268435456 := by
    have h := maa
    clear ba bb bc bd mac mbd mad mbc maa mbb
    generalize a * a = u at *
    omega
  have mbb' : -268435456 ≤ b * b ∧ b * b ≤ 268435456 := by
    have h := mbb
    clear ba bb bc bd mac mbd mad mbc maa mbb
    generalize b * b = u at *
    omega
  clear ba bb bc bd mac mbd mad mbc maa mbb
  have n1 : a * a - b * -b = a * a + b * b := by rw [Int.mul_neg]; omega
  have n2 : a * -b + b * a = 0 := by rw [Int.mul_neg, Int.mul_comm b a]; omega
  have s1 : a + c - c = a := by omega
  have s2 : b + d - d = b := by omega
  have F := Hid.intro (g4_fresh w)
  have P0 := Hid.intro (fun (pp : Nat) (W : World) (h : G4 w W pp (0, 0) (0, 0) (0, 0) (0, 0)) => g_put0 hT h a b (by omega) (by omega))
  have P1 := Hid.intro (fun (pp : Nat) (W : World) (h : G4 w W pp (a, b) (0, 0) (0, 0) (0, 0)) => g_put1 hT h c d (by omega) (by omega))
  have M1 := Hid.intro (fun (pp : Nat) (W : World) (h : G4 w W pp (a, b) (c, d) (0, 0) (0, 0)) => g_zmul_01 hT h (by show a.natAbs ≤ _; omega) (by show b.natAbs ≤ _; omega) (by show c.natAbs ≤ _; omega) (by show d.natAbs ≤ _; omega))
  have Q1 := Hid.intro (fun (pp : Nat) (W : World) (h : G4 w W pp (a * c - b * d, a * d + b * c) (c, d) (0, 0) (0, 0)) => g_parts0 hT h (by omega) (by omega))
  have P2 := Hid.intro (fun (pp : Nat) (W : World) (h : G4 w W pp (a * c - b * d, a * d + b * c) (c, d) (0, 0) (0, 0)) => g_put2 hT h a b (by omega) (by omega))
  have TU := Hid.intro (fun (pp i : Nat) (W : World) (h : G4 w W pp (a * c - b * d, a * d + b * c) (c, d) (tn a b i) (0, 0)) => (show Calls Tryd.prog 16 #[.pointer (some ⟨pp, 0, none⟩), instV 11 2 0 0 0, .int .i32 0, .slice none 0 0, .int .i64 0] W (fun e w' => e = .returned (effV 0 0 0) ∧ G4 w w' pp (a * c - b * d, a * d + b * c) (c, d) (tn a b (i + 1)) (0, 0)) from g_zturn_20 hT h))
  have Q2 := Hid.intro (fun (pp : Nat) (W : World) (h : G4 w W pp (a * c - b * d, a * d + b * c) (c, d) (a, b) (0, 0)) => g_parts2 hT h (by omega) (by omega))
  have V1 := Hid.intro (fun (pp : Nat) (W : World) (h : G4 w W pp (a * c - b * d, a * d + b * c) (c, d) (a, b) (0, 0)) => (show Calls Tryd.prog 16 #[.pointer (some ⟨pp, 0, none⟩), instV 29 3 2 0 0, .int .i32 0, .slice none 0 0, .int .i64 0] W (fun e w' => e = .returned (effV 0 0 0) ∧ G4 w w' pp (a * c - b * d, a * d + b * c) (c, d) (a, b) (a, b)) from g_zmov_32 hT h))
  have C1 := Hid.intro (fun (pp : Nat) (W : World) (h : G4 w W pp (a * c - b * d, a * d + b * c) (c, d) (a, b) (a, b)) => (show Calls Tryd.prog 16 #[.pointer (some ⟨pp, 0, none⟩), instV 12 3 0 0 0, .int .i32 0, .slice none 0 0, .int .i64 0] W (fun e w' => e = .returned (effV 0 0 0) ∧ G4 w w' pp (a * c - b * d, a * d + b * c) (c, d) (a, b) (a, -b)) from g_zconj_30 hT h))
  have M2 := Hid.intro (fun (pp : Nat) (W : World) (h : G4 w W pp (a * c - b * d, a * d + b * c) (c, d) (a, b) (a, -b)) => by
    have := g_zmul_23 hT h (by show a.natAbs ≤ _; omega) (by show b.natAbs ≤ _; omega) (by show a.natAbs ≤ _; omega) (by show (-b).natAbs ≤ _; omega)
    dsimp only at this
    rw [n1, n2] at this
    exact this)
  have Q3 := Hid.intro (fun (pp : Nat) (W : World) (h : G4 w W pp (a * c - b * d, a * d + b * c) (c, d) (a * a + b * b, 0) (a, -b)) => g_parts2 hT h (by omega) (by omega))
  have P3 := Hid.intro (fun (pp : Nat) (W : World) (h : G4 w W pp (a * c - b * d, a * d + b * c) (c, d) (a * a + b * b, 0) (a, -b)) => g_put2 hT h a b (by omega) (by omega))
  have A1 := Hid.intro (fun (pp : Nat) (W : World) (h : G4 w W pp (a * c - b * d, a * d + b * c) (c, d) (a, b) (a, -b)) => (show Calls Tryd.prog 16 #[.pointer (some ⟨pp, 0, none⟩), instV 30 2 1 0 0, .int .i32 0, .slice none 0 0, .int .i64 0] W (fun e w' => e = .returned (effV 0 0 0) ∧ G4 w w' pp (a * c - b * d, a * d + b * c) (c, d) (a + c, b + d) (a, -b)) from g_zadd_21 hT h (by show a.natAbs ≤ _; omega) (by show b.natAbs ≤ _; omega) (by show c.natAbs ≤ _; omega) (by show d.natAbs ≤ _; omega)))
  have S1 := Hid.intro (fun (pp : Nat) (W : World) (h : G4 w W pp (a * c - b * d, a * d + b * c) (c, d) (a + c, b + d) (a, -b)) => by
    have := g_zsub_21 hT h (by show (a + c).natAbs ≤ _; omega) (by show (b + d).natAbs ≤ _; omega) (by show c.natAbs ≤ _; omega) (by show d.natAbs ≤ _; omega)
    dsimp only at this
    rw [s1, s2] at this
    exact this)
  have Q4 := Hid.intro (fun (pp : Nat) (W : World) (h : G4 w W pp (a * c - b * d, a * d + b * c) (c, d) (a, b) (a, -b)) => g_parts2 hT h (by omega) (by omega))
  have K := Hid.intro (fun (pp : Nat) (W : World) (h : G4 w W pp (a * c - b * d, a * d + b * c) (c, d) (a, b) (a, -b)) => g4_known hT h)
  have x1 : wrap32 (a * c) = a * c := wrap32_of (by omega)
  have x2 : wrap32 (b * d) = b * d := wrap32_of (by omega)
  have x3 : wrap32 (a * d) = a * d := wrap32_of (by omega)
  have x4 : wrap32 (b * c) = b * c := wrap32_of (by omega)
  have x5 : wrap32 (a * a) = a * a := wrap32_of (by omega)
  have x6 : wrap32 (b * b) = b * b := wrap32_of (by omega)
  have x7 : wrap32 (a * c - b * d) = a * c - b * d := wrap32_of (by omega)
  have x8 : wrap32 (a * d + b * c) = a * d + b * c := wrap32_of (by omega)
  have x9 : wrap32 (a * a + b * b) = a * a + b * b := wrap32_of (by omega)
  have y1 : IntKind.i16.wrap (p.tdiv 2) = a := by rw [← ea]; unfold IntKind.wrap; simp only [IntKind.bits, IntKind.signed]; by_cases h : a % 65536 ≥ 32768 <;> simp [h] <;> omega
  have y2 : IntKind.i16.wrap (q.tdiv 2) = b := by rw [← eb]; unfold IntKind.wrap; simp only [IntKind.bits, IntKind.signed]; by_cases h : b % 65536 ≥ 32768 <;> simp [h] <;> omega
  have y3 : IntKind.i16.wrap (r.tdiv 2) = c := by rw [← ec]; unfold IntKind.wrap; simp only [IntKind.bits, IntKind.signed]; by_cases h : c % 65536 ≥ 32768 <;> simp [h] <;> omega
  have y4 : IntKind.i16.wrap (s.tdiv 2) = d := by rw [← ed]; unfold IntKind.wrap; simp only [IntKind.bits, IntKind.signed]; by_cases h : d % 65536 ≥ 32768 <;> simp [h] <;> omega
  have z1 : wrap32 a = a := wrap32_of (by omega)
  have z2 : wrap32 b = b := wrap32_of (by omega)
  have z3 : wrap32 c = c := wrap32_of (by omega)
  have z4 : wrap32 d = d := wrap32_of (by omega)
  clear ba' bb' bc' bd' mac' mbd' mad' mbc' maa' mbb' n1 n2 s1 s2 ea eb ec ed hp hq hr hs
  go_enter Tryd.func8, Tryd.ntmps8
  go_wp2_with (first
    | (go_at_call 10; (with_reducible refine F.out.mono ?_); rintro e w1 ⟨pp, rfl, hS⟩; replace hS := Hid.intro hS)
    | (go_at_call 27; first | ((with_reducible refine (P0.out _ _ hS.out).mono ?_); rintro e w2 ⟨rfl, hS1⟩; replace hS := Hid.intro hS1; clear hS1) | ((with_reducible refine (P1.out _ _ hS.out).mono ?_); rintro e w2 ⟨rfl, hS1⟩; replace hS := Hid.intro hS1; clear hS1) | ((with_reducible refine (P2.out _ _ hS.out).mono ?_); rintro e w2 ⟨rfl, hS1⟩; replace hS := Hid.intro hS1; clear hS1))
    | (go_at_call 15; ((with_reducible refine (o_zmul_01 _).mono ?_); rintro e w2 ⟨rfl, hb1⟩; replace hS := Hid.intro (hS.out.below hb1); clear hb1))
    | (go_at_call 16; ((with_reducible refine (M1.out _ _ hS.out).mono ?_); rintro e w2 ⟨rfl, hS1⟩; replace hS := Hid.intro hS1; clear hS1))
    | (go_at_call 28; ((with_reducible refine (Q1.out _ _ hS.out).mono ?_); rintro e w2 ⟨rfl, hS1⟩; replace hS := Hid.intro hS1; clear hS1)))
  go_loopw [17] (fun v17 wr => ∃ i : Nat, i ≤ 4 ∧ v17 = .int .i64 (i : Int) ∧ Hid (G4 w wr pp (a * c - b * d, a * d + b * c) (c, d) (tn a b i) (0, 0))) (fun v17 _ => 4 - (intOf v17).toNat)
  case atStart => exact ⟨0, by omega, by first | rfl | go_num, hS⟩
  case round =>
    clear hS
    obtain ⟨i, hi, rfl, hS⟩ := hrel
    by_cases hin : i < 4
    · have hin' : (i : Int) < 4 := by omega
      go_wp2_with (first
        | (go_at_call 15; ((with_reducible refine (o_zturn_20 _).mono ?_); rintro e w2 ⟨rfl, hb1⟩; replace hS := Hid.intro (hS.out.below hb1); clear hb1))
        | (go_at_call 16; ((with_reducible refine (TU.out _ _ _ hS.out).mono ?_); rintro e w2 ⟨rfl, hS1⟩; replace hS := Hid.intro hS1; clear hS1)))
      all_goals first | omega | skip
      go_roundw
      case rel => exact ⟨i + 1, by omega, by go_num, hS⟩
      case measure => simp [intOf]; omega
    · have hi4 : i = 4 := by omega
      have hS4 : Hid (G4 w wr pp (a * c - b * d, a * d + b * c) (c, d) (a, b) (0, 0)) := by rw [hi4, tn4] at hS; exact hS
      have hiI : ¬ (i : Int) < 4 := by omega
      clear hi hin hS hi4 TU P0 P1 M1 Q1
      have hS := hS4
      clear hS4
      go_wp2_with (first
        | (go_at_call 27; ((with_reducible refine (P3.out _ _ hS.out).mono ?_); rintro e w2 ⟨rfl, hS1⟩; replace hS := Hid.intro hS1; clear hS1))
        | (go_at_call 15; first | ((with_reducible refine (o_zmov_32 _).mono ?_); rintro e w2 ⟨rfl, hb1⟩; replace hS := Hid.intro (hS.out.below hb1); clear hb1) | ((with_reducible refine (o_zconj_30 _).mono ?_); rintro e w2 ⟨rfl, hb1⟩; replace hS := Hid.intro (hS.out.below hb1); clear hb1) | ((with_reducible refine (o_zmul_23 _).mono ?_); rintro e w2 ⟨rfl, hb1⟩; replace hS := Hid.intro (hS.out.below hb1); clear hb1) | ((with_reducible refine (o_zadd_21 _).mono ?_); rintro e w2 ⟨rfl, hb1⟩; replace hS := Hid.intro (hS.out.below hb1); clear hb1) | ((with_reducible refine (o_zsub_21 _).mono ?_); rintro e w2 ⟨rfl, hb1⟩; replace hS := Hid.intro (hS.out.below hb1); clear hb1))
        | (go_at_call 16; first | ((with_reducible refine (V1.out _ _ hS.out).mono ?_); rintro e w2 ⟨rfl, hS1⟩; replace hS := Hid.intro hS1; clear hS1) | ((with_reducible refine (C1.out _ _ hS.out).mono ?_); rintro e w2 ⟨rfl, hS1⟩; replace hS := Hid.intro hS1; clear hS1) | ((with_reducible refine (M2.out _ _ hS.out).mono ?_); rintro e w2 ⟨rfl, hS1⟩; replace hS := Hid.intro hS1; clear hS1) | ((with_reducible refine (A1.out _ _ hS.out).mono ?_); rintro e w2 ⟨rfl, hS1⟩; replace hS := Hid.intro hS1; clear hS1) | ((with_reducible refine (S1.out _ _ hS.out).mono ?_); rintro e w2 ⟨rfl, hS1⟩; replace hS := Hid.intro hS1; clear hS1))
        | (go_at_call 28; first | ((with_reducible refine (Q2.out _ _ hS.out).mono ?_); rintro e w2 ⟨rfl, hS1⟩; replace hS := Hid.intro hS1; clear hS1) | ((with_reducible refine (Q3.out _ _ hS.out).mono ?_); rintro e w2 ⟨rfl, hS1⟩; replace hS := Hid.intro hS1; clear hS1) | ((with_reducible refine (Q4.out _ _ hS.out).mono ?_); rintro e w2 ⟨rfl, hS1⟩; replace hS := Hid.intro hS1; clear hS1))
        | (go_at_call 17; ((with_reducible refine (K.out _ _ hS.out).mono ?_); rintro e w2 ⟨rfl, hS1⟩; replace hS := Hid.intro hS1; clear hS1)))
      all_goals first | omega | skip
      go_ret
      exact ⟨rfl, hS.out.bel⟩
end Go.Proofs.YtlchefdddgbohaaDoor
