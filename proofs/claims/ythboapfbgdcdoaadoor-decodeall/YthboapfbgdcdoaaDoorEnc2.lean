/- encode.Encode. -/
import Derived.Test.YthboapfbgdcdoaaDoorEnc1
import Derived.Test.YthboapfbgdcdoaaDoorOApp
namespace Go.Proofs.YthboapfbgdcdoaaDoor
open Go.ChangeShapes Go.WideShapes Go.ChangeAt Go.RowKit
set_option linter.unusedVariables false
set_option maxRecDepth 100000

theorem Own.below {w w' : World} {lo : Nat} {v : Value} {zs : List Int} (h : Own w lo v zs) (hb : Below w.heap.size w w') : Own w' lo v zs := by
  refine ⟨h.1, ?_⟩
  rcases h.2 with h | ⟨g, cap, cur, h1, h2, h3, h4⟩
  · exact .inl h
  · exact .inr ⟨g, cap, cur, h1, h2, by rw [hb.block g (Array.getElem?_eq_some_iff.1 h3).1]; exact h3, h4⟩

/-- the slice (a, m, c) holds just the bytes zs, in a row made at lo or behind it (or it is nil) -/
structure SlB (w : World) (lo : Nat) (a : Option Addr) (m c : Nat) (zs : List Int) : Prop where
  len : m = zs.length
  got : Got w lo a c zs
  byt : AreBytes zs
theorem SlB.below {w w' : World} {lo : Nat} {a : Option Addr} {m c : Nat} {zs : List Int} (h : SlB w lo a m c zs) (hb : Below w.heap.size w w') : SlB w' lo a m c zs := ⟨h.len, Own.below h.got hb, h.byt⟩
theorem SlB.mono {w : World} {lo lo' : Nat} {a : Option Addr} {m c : Nat} {zs : List Int} (h : SlB w lo a m c zs) (hl : lo' ≤ lo) : SlB w lo' a m c zs := ⟨h.len, Own.mono h.got hl, h.byt⟩
theorem SlB.lies {w : World} {lo : Nat} {a : Option Addr} {m c : Nat} {zs : List Int} (h : SlB w lo a m c zs) : Lies w a zs := h.got.lies h.byt

theorem regs_bytes {a b n : Int} {s : Nat} (hs : s < 14) (hr : regB a b n s = true) : AreBytes (regsL a b n s) := by
  rcases lim_cases s hs with rfl | rfl | rfl | rfl | rfl | rfl | rfl | rfl | rfl | rfl | rfl | rfl | rfl | rfl
  all_goals
    simp [regB, aMax0, aMax1, aMax2, aMax3, aMax4, aMax5, aMax6, aMax7, aMax8, aMax9, aMax10, aMax11, aMax12, aMax13, bMax0, bMax1, bMax2, bMax3, bMax4, bMax5, bMax6, bMax7, bMax8, bMax9, bMax10, bMax11, bMax12, bMax13, nMin7, nMax7] at hr
    intro z hz
    simp [regsL] at hz
    try omega
theorem regs_len (a b n : Int) (s : Nat) : (regsL a b n s).length ≤ 2 := by
  unfold regsL
  repeat' split
  all_goals simp

theorem regs_held (op a b n f : Int) (s : Nat) (hs : s < 14) (w : World) (hr : regB a b n s = true) :
    Calls Tryd.prog 32 #[instV op a b n f, .int .i64 (s : Int)] w fun e w' => ∃ a4 m4 c4, e = .returned (.slice a4 m4 c4) ∧ SlB w' w.heap.size a4 m4 c4 (regsL a b n s) ∧ Below w.heap.size w w' :=
  (registersE_any op a b n f s hs w hr).mono fun e w' ⟨v, he, ho, hb⟩ => by
    obtain ⟨a', c', rfl, hg⟩ := own_got ho
    exact ⟨a', _, c', he, ⟨rfl, hg, regs_bytes hs hr⟩, hb⟩

theorem put_held (a : Option Addr) (m cap : Nat) (zs : List Int) (n width : Int) (lo : Nat) (w : World) (hl : SlB w lo a m cap zs) (hm : zs.length ≤ 1000) (hn : 0 ≤ n ∧ n ≤ 4294967295) :
    Calls Tryd.prog 33 #[.slice a m cap, .int .u32 n, .int .i64 width] w fun e w' => ∃ a' m' c', e = .returned (.slice a' m' c') ∧ SlB w' w.heap.size a' m' c' (putL zs n width) ∧ Below w.heap.size w w' := by
  obtain ⟨rfl, hg, hz⟩ := hl
  exact (put_got a cap zs n width w (hg.lies hz) hg.none hg.cap (by omega) hn).mono fun e w' ⟨a', c', he, hg', hb⟩ => ⟨a', _, c', he, ⟨rfl, hg', putL_bytes _ _ _ hz⟩, hb⟩

/-- the bytes of an instruction -/
def encL (op a b n f : Int) : List Int := putL ([byteAt (op - 1).toNat + f / 2] ++ regsL a b n (shapeN op).toNat) (n % 4294967296) (widthN (shapeN op).toNat f)

/-- what Encode answers -/
def EncOut (op a b n f : Int) (w : World) (e : Ending) (w' : World) : Prop :=
  (checkN op a b n f = 0 ∧ ∃ v, e = .returned (.tuple #[v, .int .i64 0]) ∧ Own w' w.heap.size v (encL op a b n f)) ∨ (checkN op a b n f ≠ 0 ∧ e = .returned (.tuple #[.slice none 0 0, .int .i64 (checkN op a b n f)]))

set_option maxHeartbeats 1000000 in
theorem encode_bad (op a b n f : Int) (w : World) (hT : Tab w) (hn : -2147483648 ≤ n ∧ n ≤ 2147483647) (hc : checkN op a b n f ≠ 0) :
    Calls Tryd.prog 14 #[instV op a b n f] w fun e w' => e = .returned (.tuple #[.slice none 0 0, .int .i64 (checkN op a b n f)]) ∧ Below w.heap.size w w' := by
  have hb0 := Hid.intro (below_alloc w (.cells #[.int .i64 op, .int .i64 a, .int .i64 b, .int .i32 n, .int .i64 f] 26))
  have hT0 := Hid.intro (hT.alloc (.cells #[.int .i64 op, .int .i64 a, .int .i64 b, .int .i32 n, .int .i64 f] 26))
  obtain ⟨C, hC⟩ : ∃ C, checkN op a b n f = C := ⟨_, rfl⟩
  rw [hC] at hc ⊢
  have hCH := Hid.intro hC
  have e0 : (C == 0) = false := by simpa using hc
  have e1 : (C != 0) = true := by simpa using hc
  clear hT hC hc
  go_enter Tryd.func14, Tryd.ntmps14
  go_wp2_with (go_at_call 22; refine (check_any _ _ _ _ _ _ hT0.out hn).mono ?_; rintro e w1 ⟨rfl, hb1⟩; rw [hCH.out]; replace hb1 := Hid.intro hb1)
  go_ret2
  exact ⟨rfl, chain2 hb0.out hb1.out⟩

theorem atE_parts (i : Nat) (hi : i < 43) (w : World) (hT : Tab w) :
    Calls Tryd.prog 18 #[.int .i64 ((i : Int) + 1)] w fun e w' => e = .returned (.tuple #[opV (nameAt i) (byteAt i) (shapeAt i), .bool true]) ∧ Below w.heap.size w w' :=
  (at_any _ w hT).mono fun e w' ⟨he, hb⟩ => ⟨by rw [he, atV, if_pos (by omega), show ((i : Int) + 1 - 1).toNat = i by omega], hb⟩

set_option maxHeartbeats 4000000 in
theorem encode_ok (i : Nat) (a b n f : Int) (w : World) (hT : Tab w) (hn : -2147483648 ≤ n ∧ n ≤ 2147483647) (hi : i < 43) (hc : checkN ((i : Int) + 1) a b n f = 0) :
    Calls Tryd.prog 14 #[instV ((i : Int) + 1) a b n f] w fun e w' => (∃ v, e = .returned (.tuple #[v, .int .i64 0]) ∧ Own w' w.heap.size v (encL ((i : Int) + 1) a b n f)) ∧ Below w.heap.size w w' := by
  obtain ⟨op, hop⟩ : ∃ op, op = (i : Int) + 1 := ⟨_, rfl⟩
  rw [← hop] at hc ⊢
  have hb0 := Hid.intro (below_alloc w (.cells #[.int .i64 op, .int .i64 a, .int .i64 b, .int .i32 n, .int .i64 f] 26))
  have hT0 := Hid.intro (hT.alloc (.cells #[.int .i64 op, .int .i64 a, .int .i64 b, .int .i32 n, .int .i64 f] 26))
  have hI0 := Hid.intro (inst_new w op a b n f)
  obtain ⟨-, hr, hm, hf0, hf4⟩ := check_ok hc
  obtain ⟨s, hs, hs14, hsn⟩ := shape_nat op
  rw [hsn] at hr hm
  have hsi : shapeAt i = (s : Int) := by rw [← hs, shapeN, hop, if_pos (by omega), show ((i : Int) + 1 - 1).toNat = i by omega]
  have hby := byte_range i hi
  have hAt := Hid.intro (fun W hW => hop ▸ hsi ▸ atE_parts i hi W hW)
  have hE : encL op a b n f = putL ([byteAt i + f / 2] ++ regsL a b n s) (n % 4294967296) (widthN s f) := by
    rw [encL, hsn, hop, show ((i : Int) + 1 - 1).toNat = i by omega]
  rw [hE]
  generalize nameAt i = NM at *
  generalize byteAt i = BY at *
  have hFi := Hid.intro (fun W => first_any BY f W hby ⟨hf0, hf4⟩)
  have hRe := Hid.intro (fun W => regs_held op a b n f s hs14 W hr)
  have hWi := Hid.intro (fun W => width_any s hs14 f W)
  have hcH := Hid.intro hc
  obtain ⟨F, hF⟩ : ∃ F, F = BY + f / 2 := ⟨_, rfl⟩
  rw [← hF] at hFi ⊢
  have hFb : Hid (0 ≤ F ∧ F ≤ 255) := (show 0 ≤ F ∧ F ≤ 255 by omega)
  have hRl := Hid.intro (regs_len a b n s)
  have hnn := Hid.intro (show 0 ≤ n % 4294967296 ∧ n % 4294967296 ≤ 4294967295 by omega)
  generalize regsL a b n s = RL at *
  obtain ⟨V, hV⟩ : ∃ V, V = widthN s f := ⟨_, rfl⟩
  rw [← hV] at hWi ⊢
  clear hT hc hr hm hs hsn hsi hE hF hby hop hV
  go_enter Tryd.func14, Tryd.ntmps14
  go_wp2_with (first
    | (go_at_call 22; refine (check_any _ _ _ _ _ _ hT0.out hn).mono ?_; rintro e w1 ⟨rfl, hb1⟩; rw [hcH.out]; have hI1 := Hid.intro (hI0.out.below hb1 hI0.out.lt); obtain ⟨i0, i1, i2, i3, i4, _⟩ := hI1.out; have hT1 := Hid.intro (hT0.out.below hb1 hT0.out.size); have hw1 := Hid.intro (chain2 hb0.out hb1); clear hb1)
    | (go_at_call 18; (with_reducible refine (hAt.out _ hT1.out).mono ?_); rintro e w2 ⟨rfl, hb2⟩; have hI2 := Hid.intro (hI1.out.below hb2 hI1.out.lt); have hw2 := Hid.intro (chain2 hw1.out hb2); clear hb2))
  have hI3 := Hid.intro (hI2.out.alloc (.cells #[.string (str NM), .int .u8 BY, .int .i64 (s : Int)] 51))
  have hO3 := Hid.intro (opAt_new w2 NM BY (s : Int))
  have hw3 := Hid.intro (hw2.out.alloc hw2.out.size (.cells #[.string (str NM), .int .u8 BY, .int .i64 (s : Int)] 51))
  clear hI0 hT0 hI1 hI2 hT1 hw1 hw2 hb0 i0 i1 i2 i3 i4
  generalize w2.alloc (.cells #[.string (str NM), .int .u8 BY, .int .i64 (s : Int)] 51) = w3 at *
  generalize w2.heap.size = g2 at *
  have hK : Hid (∀ W, Below w3.heap.size w3 W → InstAt W w.heap.size op a b n f ∧ OpAt W g2 NM BY (s : Int)) := fun W hW => ⟨hI3.out.below hW hI3.out.lt, hO3.out.below hW⟩
  obtain ⟨i0, i1, i2, i3, i4, _⟩ := hI3.out
  obtain ⟨o0, o1, o2, _⟩ := hO3.out
  go_region_held3 (fun W => W.cell? ⟨w.heap.size, 0, none⟩ = some (.int .i64 op) ∧ W.cell? ⟨w.heap.size, 1, none⟩ = some (.int .i64 a) ∧ W.cell? ⟨w.heap.size, 2, none⟩ = some (.int .i64 b) ∧ W.cell? ⟨w.heap.size, 3, none⟩ = some (.int .i32 n) ∧ W.cell? ⟨w.heap.size, 4, none⟩ = some (.int .i64 f) ∧ W.cell? ⟨g2, 1, none⟩ = some (.int .u8 BY) ∧ W.cell? ⟨g2, 2, none⟩ = some (.int .i64 (s : Int))) (go_keep)
    ((first
      | (go_at_call 31; (with_reducible refine (hFi.out _).mono ?_); rintro e wq ⟨rfl, rfl⟩)
      | (go_at_call 32; (with_reducible refine (hRe.out _).mono ?_); rintro e w4 ⟨a4, m4, c4, rfl, hs4, hb4⟩; have hb34 : Hid (Below w3.heap.size w3 w4) := (by first | exact chain2 ((Below.refl _ _).drew) hb4 | exact chain2 ((below_alloc _ _).drew) hb4); obtain ⟨⟨j0, j1, j2, j3, j4, _⟩, ⟨p0, p1, p2, _⟩⟩ := hK.out w4 hb34.out; replace hs4 := Hid.intro hs4; replace hb4 := Hid.intro hb4)
      | (refine step_app _ rfl (.tmp 24) (.tmp 28) rfl w3.heap.size _ [F] RL rfl (((own_new w3 [F] (by simp)).drew).below hb4.out) a4 c4 m4 rfl hs4.out.len hs4.out.lies hs4.out.got.none (by have := hRl.out; simp; omega) hb34.out.size ?_; intro a5 c5 k5 w5 hk5 hg5 hb5; have hb35 : Hid (Below w3.heap.size w3 w5) := (hb34.out.trans hb5); obtain ⟨⟨j0, j1, j2, j3, j4, _⟩, ⟨p0, p1, p2, _⟩⟩ := hK.out w5 hb35.out; replace hk5 := Hid.intro hk5; replace hg5 := Hid.intro hg5; clear hb5)
      | (refine step_app _ rfl (.tmp 24) (.tmp 28) rfl w3.heap.size _ [F] RL rfl ((own_new w4 [F] (by simp)).mono hb34.out.size) a4 c4 m4 rfl hs4.out.len (hs4.out.below (below_alloc _ _)).lies hs4.out.got.none (by have := hRl.out; simp; omega) (by have := hb34.out.size; simp; omega) ?_; intro a5 c5 k5 w5 hk5 hg5 hb5; have hb35 : Hid (Below w3.heap.size w3 w5) := ((hb34.out.alloc hb34.out.size _).trans hb5); obtain ⟨⟨j0, j1, j2, j3, j4, _⟩, ⟨p0, p1, p2, _⟩⟩ := hK.out w5 hb35.out; replace hk5 := Hid.intro hk5; replace hg5 := Hid.intro hg5; clear hb5)))
  all_goals have hs5 : Hid (SlB w5 w3.heap.size a5 k5 c5 ([F] ++ RL)) := ⟨hk5.out, hg5.out, areBytes_append (fun z hz => by simp at hz; subst hz; exact hFb.out) hs4.out.byt⟩
  all_goals have hL5 : Hid (([F] ++ RL).length ≤ 1000) := (show ([F] ++ RL).length ≤ 1000 by have := hRl.out; simp; omega)
  all_goals have hK5 : Hid (∀ W, Below w5.heap.size w5 W → InstAt W w.heap.size op a b n f ∧ OpAt W g2 NM BY (s : Int)) := fun W hW => hK.out W (hb35.out.trans (hW.mono hb35.out.size))
  all_goals have hen : IntKind.u32.wrap n = n % 4294967296 := (by simp [IntKind.wrap, IntKind.bits, IntKind.signed])
  all_goals clear hk5 hg5 hRl hFb hs4 hb34 hb4 hFi hRe hAt hcH i0 i1 i2 i3 i4 o0 o1 o2
  all_goals go_wp2
  all_goals clear hK hI3 hO3
  all_goals go_region_held3 (fun W => W.cell? ⟨w.heap.size, 0, none⟩ = some (.int .i64 op) ∧ W.cell? ⟨w.heap.size, 1, none⟩ = some (.int .i64 a) ∧ W.cell? ⟨w.heap.size, 2, none⟩ = some (.int .i64 b) ∧ W.cell? ⟨w.heap.size, 3, none⟩ = some (.int .i32 n) ∧ W.cell? ⟨w.heap.size, 4, none⟩ = some (.int .i64 f) ∧ W.cell? ⟨g2, 1, none⟩ = some (.int .u8 BY) ∧ W.cell? ⟨g2, 2, none⟩ = some (.int .i64 (s : Int))) (go_keep)
    ((first
      | (go_at_call 34; (with_reducible refine (hWi.out _).mono ?_); rintro e wq ⟨rfl, rfl⟩)
      | (go_at_call 33; (with_reducible refine (put_held a5 k5 c5 ([F] ++ RL) (n % 4294967296) V w3.heap.size _ (hs5.out.below ((Below.refl _ _).drew)) hL5.out hnn.out).mono ?_); rintro e w6 ⟨a6, m6, c6, rfl, hs6, hb6⟩; have hb56 : Hid (Below w5.heap.size w5 w6) := chain2 ((Below.refl _ _).drew) hb6; obtain ⟨⟨k0, k1, k2, k3, k4, _⟩, ⟨q0, q1, q2, _⟩⟩ := hK5.out w6 hb56.out; replace hs6 := Hid.intro hs6; clear hb6)))
  all_goals go_wp2_with fail
  all_goals go_ret2
  all_goals exact ⟨⟨_, rfl, Own.mono (hs6.out.len ▸ hs6.out.got) (Nat.le_trans hw3.out.size hb35.out.size)⟩, chain2 (chain2 hw3.out hb35.out) hb56.out⟩

theorem encode_any (op a b n f : Int) (w : World) (hT : Tab w) (hn : -2147483648 ≤ n ∧ n ≤ 2147483647) :
    Calls Tryd.prog 14 #[instV op a b n f] w fun e w' => EncOut op a b n f w e w' ∧ Below w.heap.size w w' := by
  by_cases hc : checkN op a b n f = 0
  · obtain ⟨⟨h1, h2⟩, _⟩ := check_ok hc
    obtain ⟨i, rfl⟩ : ∃ i : Nat, op = (i : Int) + 1 := ⟨(op - 1).toNat, by omega⟩
    exact (encode_ok i a b n f w hT hn (by omega) hc).mono fun e w' ⟨h, hb⟩ => ⟨.inl ⟨hc, h⟩, hb⟩
  · exact (encode_bad op a b n f w hT hn hc).mono fun e w' ⟨h, hb⟩ => ⟨.inr ⟨hc, h⟩, hb⟩
end Go.Proofs.YthboapfbgdcdoaaDoor
