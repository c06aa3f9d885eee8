/- whole numbers in the registers z. -/
import Derived.Test.YtlchefdddgbohaaDoorLw3
import Derived.Test.YtlchefdddgbohaaDoorTw
import Derived.Test.YtlchefdddgbohaaDoorKn
import Derived.Test.YtlchefdddgbohaaDoorDoZ1
import Derived.Test.YtlchefdddgbohaaDoorDoZ2
import Derived.Test.YtlchefdddgbohaaDoorDoZ3
import Derived.Test.YtlchefdddgbohaaDoorDoZ4
import Derived.Test.YtlchefdddgbohaaDoorDoZ5
namespace Go.Proofs.YtlchefdddgbohaaDoor
open Go.ChangeShapes Go.WideShapes Go.ChangeAt Go.RowKit
set_option linter.unusedVariables false
set_option linter.unusedSimpArgs false
set_option maxRecDepth 100000
open PlainF
/-- the registers z hold these whole numbers -/
def ZR (s : St) (zz : Nat → Int × Int) : Prop := ∀ k, k < 4 → Rep (s.z k).1 (zz k).1 ∧ Rep (s.z k).2 (zz k).2
def GS (w0 w : World) (p : Nat) (zz : Nat → Int × Int) : Prop := ∃ s, Cpu1 w0 w p s ∧ ZR s zz
theorem rep0 : Rep 0 0 := by
  have h := nearest_rep 0 (by decide)
  have e : FloatKind.f64.nearest 0 = 0 := by decide +kernel
  rw [e] at h
  exact h
theorem ZR.upd {s s' : St} {zz : Nat → Int × Int} {A x y : Nat} {a b : Int} (h : ZR s zz) (hz : s'.z = upd s.z A (x, y)) (hx : Rep x a) (hy : Rep y b) : ZR s' (upd zz A (a, b)) := fun k hk => by
  rw [hz]
  unfold Go.Proofs.YtlchefdddgbohaaDoor.upd
  split
  · exact ⟨hx, hy⟩
  · exact h k hk
theorem ZR.same {s s' : St} {zz : Nat → Int × Int} (h : ZR s zz) (hz : s'.z = s.z) : ZR s' zz := fun k hk => by rw [hz]; exact h k hk
theorem ans_some {o : Option Nat} {r u : Nat} (h : Ans o r) (e : o = some u) : r = u := by subst e; exact h
theorem mul_ans {x y r : Nat} {a b : Int} (hx : Rep x a) (hy : Rep y b) (hb : (a * b).natAbs < 2 ^ 53) (h : Ans (Ieee.double.mul x y) r) : Rep r (a * b) := by
  obtain ⟨w, e, hw⟩ := mul_rep hx hy hb
  rw [ans_some h e]
  exact hw
theorem add_ans {x y r : Nat} {a b : Int} (hx : Rep x a) (hy : Rep y b) (hb : (a + b).natAbs < 2 ^ 53) (h : Ans (Ieee.double.add x y) r) : Rep r (a + b) := by
  obtain ⟨w, e, hw⟩ := add_rep hx hy hb
  rw [ans_some h e]
  exact hw
theorem sub_ans {x y r : Nat} {a b : Int} (hx : Rep x a) (hy : Rep y b) (hb : (a - b).natAbs < 2 ^ 53) (h : Ans (Ieee.double.sub x y) r) : Rep r (a - b) := by
  obtain ⟨w, e, hw⟩ := sub_rep hx hy hb
  rw [ans_some h e]
  exact hw
theorem small_mul {a b : Int} (ha : a.natAbs ≤ 32768) (hb : b.natAbs ≤ 32768) : (a * b).natAbs ≤ 1073741824 := by
  rw [Int.natAbs_mul]
  exact Nat.mul_le_mul ha hb
theorem prod_ans {x1 x2 y1 y2 x y : Nat} {a b c d : Int} (h1 : Rep x1 a) (h2 : Rep x2 b) (h3 : Rep y1 c) (h4 : Rep y2 d) (ha : a.natAbs ≤ 32768) (hb : b.natAbs ≤ 32768) (hc : c.natAbs ≤ 32768) (hd : d.natAbs ≤ 32768) (h : ProdIs x1 x2 y1 y2 x y) : Rep x (a * c - b * d) ∧ Rep y (a * d + b * c) := by
  obtain ⟨p, q, r, t, k1, k2, k3, k4, k5, k6⟩ := h
  have m1 := small_mul ha hc
  have m2 := small_mul hb hd
  have m3 := small_mul ha hd
  have m4 := small_mul hb hc
  have e1 := mul_ans h1 h3 (by omega) k1
  have e2 := mul_ans h2 h4 (by omega) k2
  have e3 := mul_ans h1 h4 (by omega) k4
  have e4 := mul_ans h2 h3 (by omega) k5
  exact ⟨sub_ans e1 e2 (by omega) k3, add_ans e3 e4 (by omega) k6⟩
section
variable {w0 w w' : World} {p : Nat} {zz : Nat → Int × Int}
theorem GS.below (h : GS w0 w p zz) (hb : Below w.heap.size w w') : GS w0 w' p zz := by
  obtain ⟨s, h1, h2⟩ := h
  exact ⟨s, h1.below hb, h2⟩
theorem GS.bel (h : GS w0 w p zz) : Below w0.heap.size w0 w := by
  obtain ⟨s, h1, h2⟩ := h
  exact h1.1
theorem gs_fresh (w : World) : Calls Tryd.prog 10 #[.slice none 0 0] w fun e w' => ∃ p, e = .returned (.tuple #[.pointer (some ⟨p, 0, none⟩), .bool true]) ∧ GS w w' p fun _ => (0, 0) :=
  (fresh_any none 0 [] (by simp) (by simp) (fun _ => rfl) w (.inl ⟨rfl, rfl, rfl⟩)).mono fun e w' ⟨p, he, h⟩ => ⟨p, he, _, h, fun k hk => ⟨rep0, rep0⟩⟩
theorem gs_known (hT : Tab w0 ∧ Kin w0) (h : GS w0 w p zz) : Calls Tryd.prog 17 #[] w fun e w' => e = .returned (.bool true) ∧ GS w0 w' p zz := by
  obtain ⟨s, h1, h2⟩ := id h
  exact (known_any w (h1.tabs hT)).mono fun e w' ⟨he, hb⟩ => ⟨he, h.below hb⟩
theorem cpu_zb {s : St} (h : Cpu1 w0 w p s) (k : Nat) : (s.z k).1 < 2 ^ 64 ∧ (s.z k).2 < 2 ^ 64 := by
  obtain ⟨_, ks, _, hC⟩ := h
  exact hC.zb k
theorem o_zmul_01 (W : World) : Calls Tryd.prog 15 #[.string ⟨#[122, 109, 117, 108]⟩, .int .i64 0, .int .i64 1, .int .i32 0] W fun e w' => e = .returned (instV 32 0 1 0 0) ∧ Below W.heap.size W w' := by
  have hf : findN (nm ⟨#[122, 109, 117, 108]⟩) = 32 := by decide +kernel
  have := op_any ⟨#[122, 109, 117, 108]⟩ 0 1 0 W
  rw [hf] at this
  exact this
theorem d_zmul_01 (hT : Tab w0 ∧ Kin w0) (h : GS w0 w p zz) (b1 : (zz 0).1.natAbs ≤ 32768) (b2 : (zz 0).2.natAbs ≤ 32768) (b3 : (zz 1).1.natAbs ≤ 32768) (b4 : (zz 1).2.natAbs ≤ 32768) :
    Calls Tryd.prog 16 #[.pointer (some ⟨p, 0, none⟩), instV 32 0 1 0 0, .int .i32 0, .slice none 0 0, .int .i64 0] w fun e w' => e = .returned (effV 0 0 0) ∧ GS w0 w' p (upd zz 0 ((zz 0).1 * (zz 1).1 - (zz 0).2 * (zz 1).2, (zz 0).1 * (zz 1).2 + (zz 0).2 * (zz 1).1)) := by
  obtain ⟨s, h1, h2⟩ := h
  have hc : checkN 32 ((0 : Nat) : Int) ((1 : Nat) : Int) 0 0 = 0 := by decide +kernel
  refine (Do_ex (fun s' => ZR s' (upd zz 0 ((zz 0).1 * (zz 1).1 - (zz 0).2 * (zz 1).2, (zz 0).1 * (zz 1).2 + (zz 0).2 * (zz 1).1))) (word := 0) (fr := 0) (k := 0) (t := 0) (o := 0) hT h1 (.slice none 0 0) hc (by omega) fun ks W hK hC => (do_zmul hC (by decide) (by decide) 0 0 0 0 (.slice none 0 0) (by decide) (by decide)).mono ?_).mono ?_
  · rintro e w' ⟨x, y, hP, hd⟩
    have hr := prod_ans (h2 0 (by decide)).1 (h2 0 (by decide)).2 (h2 1 (by decide)).1 (h2 1 (by decide)).2 b1 b2 b3 b4 hP
    exact ⟨_, h2.upd rfl hr.1 hr.2, hd⟩
  · rintro e w' ⟨rfl, s', hz, hC⟩
    exact ⟨rfl, s', hC, hz⟩
theorem o_zmul_23 (W : World) : Calls Tryd.prog 15 #[.string ⟨#[122, 109, 117, 108]⟩, .int .i64 2, .int .i64 3, .int .i32 0] W fun e w' => e = .returned (instV 32 2 3 0 0) ∧ Below W.heap.size W w' := by
  have hf : findN (nm ⟨#[122, 109, 117, 108]⟩) = 32 := by decide +kernel
  have := op_any ⟨#[122, 109, 117, 108]⟩ 2 3 0 W
  rw [hf] at this
  exact this
theorem d_zmul_23 (hT : Tab w0 ∧ Kin w0) (h : GS w0 w p zz) (b1 : (zz 2).1.natAbs ≤ 32768) (b2 : (zz 2).2.natAbs ≤ 32768) (b3 : (zz 3).1.natAbs ≤ 32768) (b4 : (zz 3).2.natAbs ≤ 32768) :
    Calls Tryd.prog 16 #[.pointer (some ⟨p, 0, none⟩), instV 32 2 3 0 0, .int .i32 0, .slice none 0 0, .int .i64 0] w fun e w' => e = .returned (effV 0 0 0) ∧ GS w0 w' p (upd zz 2 ((zz 2).1 * (zz 3).1 - (zz 2).2 * (zz 3).2, (zz 2).1 * (zz 3).2 + (zz 2).2 * (zz 3).1)) := by
  obtain ⟨s, h1, h2⟩ := h
  have hc : checkN 32 ((2 : Nat) : Int) ((3 : Nat) : Int) 0 0 = 0 := by decide +kernel
  refine (Do_ex (fun s' => ZR s' (upd zz 2 ((zz 2).1 * (zz 3).1 - (zz 2).2 * (zz 3).2, (zz 2).1 * (zz 3).2 + (zz 2).2 * (zz 3).1))) (word := 0) (fr := 0) (k := 0) (t := 0) (o := 0) hT h1 (.slice none 0 0) hc (by omega) fun ks W hK hC => (do_zmul hC (by decide) (by decide) 0 0 0 0 (.slice none 0 0) (by decide) (by decide)).mono ?_).mono ?_
  · rintro e w' ⟨x, y, hP, hd⟩
    have hr := prod_ans (h2 2 (by decide)).1 (h2 2 (by decide)).2 (h2 3 (by decide)).1 (h2 3 (by decide)).2 b1 b2 b3 b4 hP
    exact ⟨_, h2.upd rfl hr.1 hr.2, hd⟩
  · rintro e w' ⟨rfl, s', hz, hC⟩
    exact ⟨rfl, s', hC, hz⟩
theorem o_zmov_32 (W : World) : Calls Tryd.prog 15 #[.string ⟨#[122, 109, 111, 118]⟩, .int .i64 3, .int .i64 2, .int .i32 0] W fun e w' => e = .returned (instV 29 3 2 0 0) ∧ Below W.heap.size W w' := by
  have hf : findN (nm ⟨#[122, 109, 111, 118]⟩) = 29 := by decide +kernel
  have := op_any ⟨#[122, 109, 111, 118]⟩ 3 2 0 W
  rw [hf] at this
  exact this
theorem d_zmov_32 (hT : Tab w0 ∧ Kin w0) (h : GS w0 w p zz) :
    Calls Tryd.prog 16 #[.pointer (some ⟨p, 0, none⟩), instV 29 3 2 0 0, .int .i32 0, .slice none 0 0, .int .i64 0] w fun e w' => e = .returned (effV 0 0 0) ∧ GS w0 w' p (upd zz 3 ((zz 2).1, (zz 2).2)) := by
  obtain ⟨s, h1, h2⟩ := h
  have hc : checkN 29 ((3 : Nat) : Int) ((2 : Nat) : Int) 0 0 = 0 := by decide +kernel
  refine (Do_ex (fun s' => ZR s' (upd zz 3 ((zz 2).1, (zz 2).2))) (word := 0) (fr := 0) (k := 0) (t := 0) (o := 0) hT h1 (.slice none 0 0) hc (by omega) fun ks W hK hC => (do_zmov hC (by decide) (by decide) 0 0 0 0 (.slice none 0 0) (by decide) (by decide)).mono ?_).mono ?_
  · rintro e w' ⟨x, y, hxy, hd⟩
    obtain ⟨rfl, rfl⟩ := Prod.mk.inj (show (x, y) = ((s.z 2).1, (s.z 2).2) from hxy)
    exact ⟨_, h2.upd rfl (h2 2 (by decide)).1 (h2 2 (by decide)).2, hd⟩
  · rintro e w' ⟨rfl, s', hz, hC⟩
    exact ⟨rfl, s', hC, hz⟩
theorem o_zadd_21 (W : World) : Calls Tryd.prog 15 #[.string ⟨#[122, 97, 100, 100]⟩, .int .i64 2, .int .i64 1, .int .i32 0] W fun e w' => e = .returned (instV 30 2 1 0 0) ∧ Below W.heap.size W w' := by
  have hf : findN (nm ⟨#[122, 97, 100, 100]⟩) = 30 := by decide +kernel
  have := op_any ⟨#[122, 97, 100, 100]⟩ 2 1 0 W
  rw [hf] at this
  exact this
theorem d_zadd_21 (hT : Tab w0 ∧ Kin w0) (h : GS w0 w p zz) (b1 : (zz 2).1.natAbs ≤ 1073741824) (b2 : (zz 2).2.natAbs ≤ 1073741824) (b3 : (zz 1).1.natAbs ≤ 1073741824) (b4 : (zz 1).2.natAbs ≤ 1073741824) :
    Calls Tryd.prog 16 #[.pointer (some ⟨p, 0, none⟩), instV 30 2 1 0 0, .int .i32 0, .slice none 0 0, .int .i64 0] w fun e w' => e = .returned (effV 0 0 0) ∧ GS w0 w' p (upd zz 2 ((zz 2).1 + (zz 1).1, (zz 2).2 + (zz 1).2)) := by
  obtain ⟨s, h1, h2⟩ := h
  have hc : checkN 30 ((2 : Nat) : Int) ((1 : Nat) : Int) 0 0 = 0 := by decide +kernel
  refine (Do_ex (fun s' => ZR s' (upd zz 2 ((zz 2).1 + (zz 1).1, (zz 2).2 + (zz 1).2))) (word := 0) (fr := 0) (k := 0) (t := 0) (o := 0) hT h1 (.slice none 0 0) hc (by omega) fun ks W hK hC => (do_zadd hC (by decide) (by decide) 0 0 0 0 (.slice none 0 0) (by decide) (by decide)).mono ?_).mono ?_
  · rintro e w' ⟨x, y, ax, ay, hd⟩
    have r1 := add_ans (h2 2 (by decide)).1 (h2 1 (by decide)).1 (by omega) ax
    have r2 := add_ans (h2 2 (by decide)).2 (h2 1 (by decide)).2 (by omega) ay
    exact ⟨_, h2.upd rfl r1 r2, hd⟩
  · rintro e w' ⟨rfl, s', hz, hC⟩
    exact ⟨rfl, s', hC, hz⟩
theorem o_zsub_21 (W : World) : Calls Tryd.prog 15 #[.string ⟨#[122, 115, 117, 98]⟩, .int .i64 2, .int .i64 1, .int .i32 0] W fun e w' => e = .returned (instV 31 2 1 0 0) ∧ Below W.heap.size W w' := by
  have hf : findN (nm ⟨#[122, 115, 117, 98]⟩) = 31 := by decide +kernel
  have := op_any ⟨#[122, 115, 117, 98]⟩ 2 1 0 W
  rw [hf] at this
  exact this
theorem d_zsub_21 (hT : Tab w0 ∧ Kin w0) (h : GS w0 w p zz) (b1 : (zz 2).1.natAbs ≤ 1073741824) (b2 : (zz 2).2.natAbs ≤ 1073741824) (b3 : (zz 1).1.natAbs ≤ 1073741824) (b4 : (zz 1).2.natAbs ≤ 1073741824) :
    Calls Tryd.prog 16 #[.pointer (some ⟨p, 0, none⟩), instV 31 2 1 0 0, .int .i32 0, .slice none 0 0, .int .i64 0] w fun e w' => e = .returned (effV 0 0 0) ∧ GS w0 w' p (upd zz 2 ((zz 2).1 - (zz 1).1, (zz 2).2 - (zz 1).2)) := by
  obtain ⟨s, h1, h2⟩ := h
  have hc : checkN 31 ((2 : Nat) : Int) ((1 : Nat) : Int) 0 0 = 0 := by decide +kernel
  refine (Do_ex (fun s' => ZR s' (upd zz 2 ((zz 2).1 - (zz 1).1, (zz 2).2 - (zz 1).2))) (word := 0) (fr := 0) (k := 0) (t := 0) (o := 0) hT h1 (.slice none 0 0) hc (by omega) fun ks W hK hC => (do_zsub hC (by decide) (by decide) 0 0 0 0 (.slice none 0 0) (by decide) (by decide)).mono ?_).mono ?_
  · rintro e w' ⟨x, y, ax, ay, hd⟩
    have r1 := sub_ans (h2 2 (by decide)).1 (h2 1 (by decide)).1 (by omega) ax
    have r2 := sub_ans (h2 2 (by decide)).2 (h2 1 (by decide)).2 (by omega) ay
    exact ⟨_, h2.upd rfl r1 r2, hd⟩
  · rintro e w' ⟨rfl, s', hz, hC⟩
    exact ⟨rfl, s', hC, hz⟩
theorem o_zturn_20 (W : World) : Calls Tryd.prog 15 #[.string ⟨#[122, 116, 117, 114, 110]⟩, .int .i64 2, .int .i64 0, .int .i32 0] W fun e w' => e = .returned (instV 11 2 0 0 0) ∧ Below W.heap.size W w' := by
  have hf : findN (nm ⟨#[122, 116, 117, 114, 110]⟩) = 11 := by decide +kernel
  have := op_any ⟨#[122, 116, 117, 114, 110]⟩ 2 0 0 W
  rw [hf] at this
  exact this
theorem d_zturn_20 (hT : Tab w0 ∧ Kin w0) (h : GS w0 w p zz) :
    Calls Tryd.prog 16 #[.pointer (some ⟨p, 0, none⟩), instV 11 2 0 0 0, .int .i32 0, .slice none 0 0, .int .i64 0] w fun e w' => e = .returned (effV 0 0 0) ∧ GS w0 w' p (upd zz 2 (-(zz 2).2, (zz 2).1)) := by
  obtain ⟨s, h1, h2⟩ := h
  have hc : checkN 11 ((2 : Nat) : Int) ((0 : Nat) : Int) 0 0 = 0 := by decide +kernel
  refine (Do_ex (fun s' => ZR s' (upd zz 2 (-(zz 2).2, (zz 2).1))) (word := 0) (fr := 0) (k := 0) (t := 0) (o := 0) hT h1 (.slice none 0 0) hc (by omega) fun ks W hK hC => (do_zturn hC (by decide) (by decide) 0 0 0 0 (.slice none 0 0) (by decide)).mono ?_).mono ?_
  · rintro e w' ⟨x, y, rfl, rfl, hd⟩
    have hn := neg_rep (h2 2 (by decide)).2 (cpu_zb h1 2).2
    exact ⟨_, h2.upd rfl hn (h2 2 (by decide)).1, hd⟩
  · rintro e w' ⟨rfl, s', hz, hC⟩
    exact ⟨rfl, s', hC, hz⟩
theorem o_zconj_30 (W : World) : Calls Tryd.prog 15 #[.string ⟨#[122, 99, 111, 110, 106]⟩, .int .i64 3, .int .i64 0, .int .i32 0] W fun e w' => e = .returned (instV 12 3 0 0 0) ∧ Below W.heap.size W w' := by
  have hf : findN (nm ⟨#[122, 99, 111, 110, 106]⟩) = 12 := by decide +kernel
  have := op_any ⟨#[122, 99, 111, 110, 106]⟩ 3 0 0 W
  rw [hf] at this
  exact this
theorem d_zconj_30 (hT : Tab w0 ∧ Kin w0) (h : GS w0 w p zz) :
    Calls Tryd.prog 16 #[.pointer (some ⟨p, 0, none⟩), instV 12 3 0 0 0, .int .i32 0, .slice none 0 0, .int .i64 0] w fun e w' => e = .returned (effV 0 0 0) ∧ GS w0 w' p (upd zz 3 ((zz 3).1, -(zz 3).2)) := by
  obtain ⟨s, h1, h2⟩ := h
  have hc : checkN 12 ((3 : Nat) : Int) ((0 : Nat) : Int) 0 0 = 0 := by decide +kernel
  refine (Do_ex (fun s' => ZR s' (upd zz 3 ((zz 3).1, -(zz 3).2))) (word := 0) (fr := 0) (k := 0) (t := 0) (o := 0) hT h1 (.slice none 0 0) hc (by omega) fun ks W hK hC => (do_zconj hC (by decide) (by decide) 0 0 0 0 (.slice none 0 0) (by decide)).mono ?_).mono ?_
  · rintro e w' ⟨x, y, rfl, rfl, hd⟩
    have hn := neg_rep (h2 3 (by decide)).2 (cpu_zb h1 3).2
    exact ⟨_, h2.upd rfl (h2 3 (by decide)).1 hn, hd⟩
  · rintro e w' ⟨rfl, s', hz, hC⟩
    exact ⟨rfl, s', hC, hz⟩
theorem d_zset0 (hT : Tab w0 ∧ Kin w0) {s : St} (h1 : Cpu1 w0 w p s) (h2 : ZR s zz) {a b : Int} (h6 : s.r 6 = a) (h7 : s.r 7 = b) (ha : a.natAbs ≤ 1073741824) (hb : b.natAbs ≤ 1073741824) :
    Calls Tryd.prog 16 #[.pointer (some ⟨p, 0, none⟩), instV 35 0 6 7 0, .int .i32 0, .slice none 0 0, .int .i64 0] w fun e w' => e = .returned (effV 0 0 0) ∧ GS w0 w' p (upd zz 0 (a, b)) := by
  have hc : checkN 35 ((0 : Nat) : Int) ((6 : Nat) : Int) 7 0 = 0 := by decide +kernel
  refine (Do_ex (fun s' => ZR s' (upd zz 0 (a, b))) (word := 0) (fr := 0) (k := 0) (t := 0) (o := 0) hT h1 (.slice none 0 0) hc (by omega) fun ks W hK hC => (do_zset hC (by decide) (by decide) 7 0 0 0 (.slice none 0 0) (by decide) (C := 7) rfl (by decide)).mono ?_).mono ?_
  · rintro e w' ⟨x, y, rfl, rfl, hd⟩
    refine ⟨_, h2.upd rfl ?_ ?_, hd⟩
    · rw [h6]; exact floatOf_rep a (by omega)
    · rw [h7]; exact floatOf_rep b (by omega)
  · rintro e w' ⟨rfl, s', hz, hC⟩
    exact ⟨rfl, s', hC, hz⟩
theorem o_zset0 (W : World) : Calls Tryd.prog 15 #[.string ⟨#[122, 115, 101, 116]⟩, .int .i64 0, .int .i64 6, .int .i32 7] W fun e w' => e = .returned (instV 35 0 6 7 0) ∧ Below W.heap.size W w' := by
  have hf : findN (nm ⟨#[122, 115, 101, 116]⟩) = 35 := by decide +kernel
  have := op_any ⟨#[122, 115, 101, 116]⟩ 0 6 7 W
  rw [hf] at this
  exact this
theorem put_0 (hT : Tab w0 ∧ Kin w0) (h : GS w0 w p zz) (a b : Int) (ha : a.natAbs ≤ 1073741824) (hb : b.natAbs ≤ 1073741824) :
    Calls Tryd.prog 27 #[.pointer (some ⟨p, 0, none⟩), .int .i64 0, .int .i32 a, .int .i32 b] w fun e w' => e = .returned (.tuple #[]) ∧ GS w0 w' p (upd zz 0 (a, b)) := by
  obtain ⟨s, h1, h2⟩ := h
  have hS := Hid.intro h1
  have o1 := fun W => li_op 6 a W
  have o2 := fun W => li_op 7 b W
  have d1 := Hid.intro (fun (W : World) (h : Cpu1 w0 W p s) => li_do hT 6 (by decide) a (by omega) W h)
  have d2 := Hid.intro (fun (W : World) (h : Cpu1 w0 W p { s with r := upd s.r 6 a }) => li_do hT 7 (by decide) b (by omega) W h)
  have d3 := Hid.intro (fun (W : World) (h : Cpu1 w0 W p { s with r := upd (upd s.r 6 a) 7 b }) => d_zset0 hT h (h2.same rfl) (a := a) (b := b) rfl rfl ha hb)
  clear h1 h2 ha hb
  go_enter Tryd.func27, Tryd.ntmps27
  go_wp2_with (first
    | (go_at_call 15; first | ((with_reducible refine (o1 _).mono ?_); rintro e w1 ⟨rfl, hb1⟩; replace hS := Hid.intro (hS.out.below hb1); clear hb1 o1) | ((with_reducible refine (o2 _).mono ?_); rintro e w1 ⟨rfl, hb1⟩; replace hS := Hid.intro (hS.out.below hb1); clear hb1 o2) | ((with_reducible refine (o_zset0 _).mono ?_); rintro e w1 ⟨rfl, hb1⟩; replace hS := Hid.intro (hS.out.below hb1); clear hb1))
    | (go_at_call 16; first | ((refine (d1.out _ hS.out).mono ?_); rintro e w1 ⟨rfl, hS1⟩; replace hS := Hid.intro hS1; clear hS1 d1) | ((refine (d2.out _ hS.out).mono ?_); rintro e w1 ⟨rfl, hS1⟩; replace hS := Hid.intro hS1; clear hS1 d2) | ((refine (d3.out _ hS.out).mono ?_); rintro e w1 ⟨rfl, hS1⟩; replace hS := Hid.intro hS1; clear hS1 d3)))
  go_end0
  exact ⟨rfl, hS.out⟩
theorem d_zset1 (hT : Tab w0 ∧ Kin w0) {s : St} (h1 : Cpu1 w0 w p s) (h2 : ZR s zz) {a b : Int} (h6 : s.r 6 = a) (h7 : s.r 7 = b) (ha : a.natAbs ≤ 1073741824) (hb : b.natAbs ≤ 1073741824) :
    Calls Tryd.prog 16 #[.pointer (some ⟨p, 0, none⟩), instV 35 1 6 7 0, .int .i32 0, .slice none 0 0, .int .i64 0] w fun e w' => e = .returned (effV 0 0 0) ∧ GS w0 w' p (upd zz 1 (a, b)) := by
  have hc : checkN 35 ((1 : Nat) : Int) ((6 : Nat) : Int) 7 0 = 0 := by decide +kernel
  refine (Do_ex (fun s' => ZR s' (upd zz 1 (a, b))) (word := 0) (fr := 0) (k := 0) (t := 0) (o := 0) hT h1 (.slice none 0 0) hc (by omega) fun ks W hK hC => (do_zset hC (by decide) (by decide) 7 0 0 0 (.slice none 0 0) (by decide) (C := 7) rfl (by decide)).mono ?_).mono ?_
  · rintro e w' ⟨x, y, rfl, rfl, hd⟩
    refine ⟨_, h2.upd rfl ?_ ?_, hd⟩
    · rw [h6]; exact floatOf_rep a (by omega)
    · rw [h7]; exact floatOf_rep b (by omega)
  · rintro e w' ⟨rfl, s', hz, hC⟩
    exact ⟨rfl, s', hC, hz⟩
theorem o_zset1 (W : World) : Calls Tryd.prog 15 #[.string ⟨#[122, 115, 101, 116]⟩, .int .i64 1, .int .i64 6, .int .i32 7] W fun e w' => e = .returned (instV 35 1 6 7 0) ∧ Below W.heap.size W w' := by
  have hf : findN (nm ⟨#[122, 115, 101, 116]⟩) = 35 := by decide +kernel
  have := op_any ⟨#[122, 115, 101, 116]⟩ 1 6 7 W
  rw [hf] at this
  exact this
theorem put_1 (hT : Tab w0 ∧ Kin w0) (h : GS w0 w p zz) (a b : Int) (ha : a.natAbs ≤ 1073741824) (hb : b.natAbs ≤ 1073741824) :
    Calls Tryd.prog 27 #[.pointer (some ⟨p, 0, none⟩), .int .i64 1, .int .i32 a, .int .i32 b] w fun e w' => e = .returned (.tuple #[]) ∧ GS w0 w' p (upd zz 1 (a, b)) := by
  obtain ⟨s, h1, h2⟩ := h
  have hS := Hid.intro h1
  have o1 := fun W => li_op 6 a W
  have o2 := fun W => li_op 7 b W
  have d1 := Hid.intro (fun (W : World) (h : Cpu1 w0 W p s) => li_do hT 6 (by decide) a (by omega) W h)
  have d2 := Hid.intro (fun (W : World) (h : Cpu1 w0 W p { s with r := upd s.r 6 a }) => li_do hT 7 (by decide) b (by omega) W h)
  have d3 := Hid.intro (fun (W : World) (h : Cpu1 w0 W p { s with r := upd (upd s.r 6 a) 7 b }) => d_zset1 hT h (h2.same rfl) (a := a) (b := b) rfl rfl ha hb)
  clear h1 h2 ha hb
  go_enter Tryd.func27, Tryd.ntmps27
  go_wp2_with (first
    | (go_at_call 15; first | ((with_reducible refine (o1 _).mono ?_); rintro e w1 ⟨rfl, hb1⟩; replace hS := Hid.intro (hS.out.below hb1); clear hb1 o1) | ((with_reducible refine (o2 _).mono ?_); rintro e w1 ⟨rfl, hb1⟩; replace hS := Hid.intro (hS.out.below hb1); clear hb1 o2) | ((with_reducible refine (o_zset1 _).mono ?_); rintro e w1 ⟨rfl, hb1⟩; replace hS := Hid.intro (hS.out.below hb1); clear hb1))
    | (go_at_call 16; first | ((refine (d1.out _ hS.out).mono ?_); rintro e w1 ⟨rfl, hS1⟩; replace hS := Hid.intro hS1; clear hS1 d1) | ((refine (d2.out _ hS.out).mono ?_); rintro e w1 ⟨rfl, hS1⟩; replace hS := Hid.intro hS1; clear hS1 d2) | ((refine (d3.out _ hS.out).mono ?_); rintro e w1 ⟨rfl, hS1⟩; replace hS := Hid.intro hS1; clear hS1 d3)))
  go_end0
  exact ⟨rfl, hS.out⟩
theorem d_zset2 (hT : Tab w0 ∧ Kin w0) {s : St} (h1 : Cpu1 w0 w p s) (h2 : ZR s zz) {a b : Int} (h6 : s.r 6 = a) (h7 : s.r 7 = b) (ha : a.natAbs ≤ 1073741824) (hb : b.natAbs ≤ 1073741824) :
    Calls Tryd.prog 16 #[.pointer (some ⟨p, 0, none⟩), instV 35 2 6 7 0, .int .i32 0, .slice none 0 0, .int .i64 0] w fun e w' => e = .returned (effV 0 0 0) ∧ GS w0 w' p (upd zz 2 (a, b)) := by
  have hc : checkN 35 ((2 : Nat) : Int) ((6 : Nat) : Int) 7 0 = 0 := by decide +kernel
  refine (Do_ex (fun s' => ZR s' (upd zz 2 (a, b))) (word := 0) (fr := 0) (k := 0) (t := 0) (o := 0) hT h1 (.slice none 0 0) hc (by omega) fun ks W hK hC => (do_zset hC (by decide) (by decide) 7 0 0 0 (.slice none 0 0) (by decide) (C := 7) rfl (by decide)).mono ?_).mono ?_
  · rintro e w' ⟨x, y, rfl, rfl, hd⟩
    refine ⟨_, h2.upd rfl ?_ ?_, hd⟩
    · rw [h6]; exact floatOf_rep a (by omega)
    · rw [h7]; exact floatOf_rep b (by omega)
  · rintro e w' ⟨rfl, s', hz, hC⟩
    exact ⟨rfl, s', hC, hz⟩
theorem o_zset2 (W : World) : Calls Tryd.prog 15 #[.string ⟨#[122, 115, 101, 116]⟩, .int .i64 2, .int .i64 6, .int .i32 7] W fun e w' => e = .returned (instV 35 2 6 7 0) ∧ Below W.heap.size W w' := by
  have hf : findN (nm ⟨#[122, 115, 101, 116]⟩) = 35 := by decide +kernel
  have := op_any ⟨#[122, 115, 101, 116]⟩ 2 6 7 W
  rw [hf] at this
  exact this
theorem put_2 (hT : Tab w0 ∧ Kin w0) (h : GS w0 w p zz) (a b : Int) (ha : a.natAbs ≤ 1073741824) (hb : b.natAbs ≤ 1073741824) :
    Calls Tryd.prog 27 #[.pointer (some ⟨p, 0, none⟩), .int .i64 2, .int .i32 a, .int .i32 b] w fun e w' => e = .returned (.tuple #[]) ∧ GS w0 w' p (upd zz 2 (a, b)) := by
  obtain ⟨s, h1, h2⟩ := h
  have hS := Hid.intro h1
  have o1 := fun W => li_op 6 a W
  have o2 := fun W => li_op 7 b W
  have d1 := Hid.intro (fun (W : World) (h : Cpu1 w0 W p s) => li_do hT 6 (by decide) a (by omega) W h)
  have d2 := Hid.intro (fun (W : World) (h : Cpu1 w0 W p { s with r := upd s.r 6 a }) => li_do hT 7 (by decide) b (by omega) W h)
  have d3 := Hid.intro (fun (W : World) (h : Cpu1 w0 W p { s with r := upd (upd s.r 6 a) 7 b }) => d_zset2 hT h (h2.same rfl) (a := a) (b := b) rfl rfl ha hb)
  clear h1 h2 ha hb
  go_enter Tryd.func27, Tryd.ntmps27
  go_wp2_with (first
    | (go_at_call 15; first | ((with_reducible refine (o1 _).mono ?_); rintro e w1 ⟨rfl, hb1⟩; replace hS := Hid.intro (hS.out.below hb1); clear hb1 o1) | ((with_reducible refine (o2 _).mono ?_); rintro e w1 ⟨rfl, hb1⟩; replace hS := Hid.intro (hS.out.below hb1); clear hb1 o2) | ((with_reducible refine (o_zset2 _).mono ?_); rintro e w1 ⟨rfl, hb1⟩; replace hS := Hid.intro (hS.out.below hb1); clear hb1))
    | (go_at_call 16; first | ((refine (d1.out _ hS.out).mono ?_); rintro e w1 ⟨rfl, hS1⟩; replace hS := Hid.intro hS1; clear hS1 d1) | ((refine (d2.out _ hS.out).mono ?_); rintro e w1 ⟨rfl, hS1⟩; replace hS := Hid.intro hS1; clear hS1 d2) | ((refine (d3.out _ hS.out).mono ?_); rintro e w1 ⟨rfl, hS1⟩; replace hS := Hid.intro hS1; clear hS1 d3)))
  go_end0
  exact ⟨rfl, hS.out⟩
end
end Go.Proofs.YtlchefdddgbohaaDoor
