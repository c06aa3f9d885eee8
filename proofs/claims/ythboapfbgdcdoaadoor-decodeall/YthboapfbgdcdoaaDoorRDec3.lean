/- The document's Decode, by shape: more. -/
import Derived.Test.YthboapfbgdcdoaaDoorRDec1
namespace Go.Proofs.YthboapfbgdcdoaaDoor
open Go.ChangeShapes Go.WideShapes Go.ChangeAt Go.RowKit
set_option linter.unusedVariables false
set_option maxRecDepth 100000


set_option maxHeartbeats 4000000 in
theorem rdec_12_1 (b off cap m k : Nat) (zs : List Int) (OP c : Int) (w : World) (V : Value) (hm : m = zs.length) (hT : Tab w) (hl : Lies w (some ⟨b, off, none⟩) zs) (hbw : b < w.heap.size) (hcap : m ≤ cap) (hml : m ≤ 140737488355328) (hk : (k : Int) + 2 ≤ m) (hc : c = zs.getD k 0) (hop : ¬ (OP = 0))
    (hFi : ∀ W, Calls Tryd.prog 25 #[.int .u8 c] W fun e w' => e = .returned (.tuple #[.int .i64 OP, .int .i64 1]) ∧ Below W.heap.size W w')
    (hSi : ∀ W, Calls Tryd.prog 26 #[.int .i64 OP, .int .i64 1] W fun e w' => e = .returned (.int .i64 2) ∧ Below W.heap.size W w')
    (hSh : ∀ W, Calls Tryd.prog 27 #[.int .i64 OP] W fun e w' => e = .returned (.int .i64 12) ∧ Below W.heap.size W w')
    (hV : V = endV OP (fA 12 ((zs.drop (k + 1)).take 1)) (fB 12 ((zs.drop (k + 1)).take 1)) (fN 12 1 ((zs.drop (k + 1)).take 1)) 1 2) :
    Calls Tryd.prog 12 #[.slice (some ⟨b, off, none⟩) m cap, .int .i64 (k : Int)] w fun e w' => e = .returned V ∧ Below w.heap.size w w' := by
  have hys : (zs.drop k).take 2 = c :: (zs.drop (k + 1)).take 1 := by
    rw [List.drop_eq_getElem_cons (by omega), List.take_succ_cons, hc, List.getD_eq_getElem?_getD, List.getElem?_eq_getElem (by omega)]
    rfl
  have hsub := lies_sub hl k 2
  rw [hys] at hsub
  have hl3 : ((zs.drop (k + 1)).take 1).length = 1 := by simp; omega
  have hby := hsub.1
  generalize (zs.drop (k + 1)).take 1 = rs at *
  obtain ⟨x1, rfl⟩ := list1 hl3
  have hbx1 := hby x1 (by simp)
  have q0 := lies_cell hsub 0 c rfl
  rw [Nat.add_zero] at q0
  have qa := fun o => ((below_alloc w o).cell (p := ⟨b, off + k, none⟩) hbw).trans q0
  have hV2 : V = endV OP 0 0 (sgn (leN (((c :: [x1]).drop 1).take 1)) 1) 1 2 := by
    rw [hV]
    first | rfl | (simp [fA, fB, fN, leN]; done)
  have hNu := Hid.intro (fun W hW => refnum_any b (off + k) (cap - k) 2 1 1 (c :: [x1]) W rfl hW (by simp) (by omega) (by simp))
  have hnb : -2147483648 ≤ sgn (leN (((c :: [x1]).drop 1).take 1)) 1 ∧ sgn (leN (((c :: [x1]).drop 1).take 1)) 1 ≤ 2147483647 := by
    have h1 := leN_bd (((c :: [x1]).drop 1).take 1) (areBytes_take _ (areBytes_drop _ hby _) _)
    simp only [List.drop, List.take, List.length] at h1 ⊢
    rw [sgn1 _ (by omega)]
    omega
  obtain ⟨NN, hNN⟩ : ∃ NN, NN = sgn (leN (((c :: [x1]).drop 1).take 1)) 1 := ⟨_, rfl⟩
  rw [← hNN] at hV2 hnb
  replace hNu : Hid (∀ W, Lies W (some ⟨b, off + k, none⟩) (c :: [x1]) → Calls Tryd.prog 28 #[.slice (some ⟨b, off + k, none⟩) 2 (cap - k), .int .i64 1, .int .i64 1] W fun e w' => e = .returned (.int .i32 NN) ∧ w' = W) := by
    show ∀ W, _
    rw [hNN]
    exact hNu.out
  have hnbH := Hid.intro hnb
  clear hnb hNN
  have ex1 : IntKind.i64.wrap x1 = x1 := by rw [IntKind.wrap_i64]; omega
  have rx1 : x1 % 256 = x1 := by omega
  have hCk := Hid.intro (fun W => refCheck_any OP 0 0 NN 1 W hnbH.out)
  have hVH := Hid.intro hV2
  unfold endV at hVH
  obtain ⟨C, hC⟩ : ∃ C, C = checkN OP 0 0 NN 1 := ⟨_, rfl⟩
  rw [← hC] at hCk hVH
  have hz0 := Hid.intro (zblk_new w)
  have hTH := Hid.intro hT
  have hsubH := Hid.intro hsub
  have hFiH := Hid.intro hFi
  have hSiH := Hid.intro hSi
  have hShH := Hid.intro hSh
  have e0 : ((m : Int) - k < 2) = False := by simp; omega
  have ek : ((k : Int) == (m : Int)) = false := by simp; omega
  have hMH : Hid (k + 2 - k = 2) := (show _ = _ by omega)
  have eop : (OP == 0) = false := by simpa using hop
  have hk1 : (k : Int) < (m : Int) := by omega
  have hk2 : ¬ ((k : Int) < 0) := by omega
  have hk3 : ¬ ((k : Int) > (m : Int)) := by omega
  clear hT hsub hFi hSi hSh hV hV2 hm hl hc hys hl3 hby hC q0
  by_cases hc0 : C = 0
  · subst hc0
    rw [if_pos rfl] at hVH
    go_enter Tryd.func12, Tryd.ntmps12
    go_wp2_with (first
      | (go_at_call 25; (with_reducible refine (hFiH.out _).mono ?_); rintro e w1 ⟨rfl, hb1⟩; replace hb1 := Hid.intro hb1)
      | (go_at_call 26; (with_reducible refine (hSiH.out _).mono ?_); rintro e w2 ⟨rfl, hb2⟩; replace hb2 := Hid.intro hb2)
      | (go_at_call 27; (with_reducible refine (hShH.out _).mono ?_); rintro e w3 ⟨rfl, hb3⟩; have hR := Hid.intro (rready_of hTH.out hsubH.out hbw hb1.out hb2.out hb3); clear hb3; have hneH : Hid (b ≠ w2.heap.size) := (by show _ ≠ _; have := hR.out.bw; have := hR.out.h.le; omega); have hne := hneH.out; obtain ⟨i0, i1, i2, i3, i4, _⟩ := hR.out.i; have ff := hR.out.f; have c1 := lies_cell hR.out.l 1 x1 rfl)
      | (go_at_call 28; (try rw [hMH.out]); (with_reducible refine (hNu.out _ hR.out.l).mono ?_); rintro e wq ⟨rfl, rfl⟩)
      | (go_at_call 29; (with_reducible refine (hCk.out _).mono ?_); rintro e w4 ⟨rfl, hb4⟩; have hI4 := (hR.out.i.setN NN).below hb4 (hR.out.i.setN NN).lt; obtain ⟨j0, j1, j2, j3, j4, _⟩ := hI4; have hz4 := Hid.intro ((hR.out.h.set 3 _).z.below hb4 (hR.out.h.set 3 _).z.lt); obtain ⟨z0, z1, z2, z3, z4, zf⟩ := hz4.out.cells; have hw4 := Hid.intro (chain2 (hR.out.h.set 3 _).b hb4); clear hb4))
    have hset := hz4.out.set OP 0 0 NN 1
    have hbw4 := below_setInst hw4.out (Nat.le_refl w.heap.size) OP 0 0 NN 1
    change bodyPost _ _ _ _ _ (setInst _ w.heap.size OP 0 0 NN 1)
    generalize setInst _ w.heap.size OP 0 0 NN 1 = WX at *
    obtain ⟨y0, y1, y2, y3, y4, _⟩ := hset
    refine bodyPost_ret (by simp [results, Tryd.results12, go_sem, y0, y1, y2, y3, y4]; try rfl) rfl ?_
    exact ⟨by rw [hVH.out], hbw4⟩
  · rw [if_neg hc0] at hVH
    have e1 : (C == 0) = false := by simpa using hc0
    have e2 : (C != 0) = true := by simpa using hc0
    clear hc0
    go_enter Tryd.func12, Tryd.ntmps12
    go_wp2_with (first
      | (go_at_call 25; (with_reducible refine (hFiH.out _).mono ?_); rintro e w1 ⟨rfl, hb1⟩; replace hb1 := Hid.intro hb1)
      | (go_at_call 26; (with_reducible refine (hSiH.out _).mono ?_); rintro e w2 ⟨rfl, hb2⟩; replace hb2 := Hid.intro hb2)
      | (go_at_call 27; (with_reducible refine (hShH.out _).mono ?_); rintro e w3 ⟨rfl, hb3⟩; have hR := Hid.intro (rready_of hTH.out hsubH.out hbw hb1.out hb2.out hb3); clear hb3; have hneH : Hid (b ≠ w2.heap.size) := (by show _ ≠ _; have := hR.out.bw; have := hR.out.h.le; omega); have hne := hneH.out; obtain ⟨i0, i1, i2, i3, i4, _⟩ := hR.out.i; have ff := hR.out.f; have c1 := lies_cell hR.out.l 1 x1 rfl)
      | (go_at_call 28; (try rw [hMH.out]); (with_reducible refine (hNu.out _ hR.out.l).mono ?_); rintro e wq ⟨rfl, rfl⟩)
      | (go_at_call 29; (with_reducible refine (hCk.out _).mono ?_); rintro e w4 ⟨rfl, hb4⟩; have hI4 := (hR.out.i.setN NN).below hb4 (hR.out.i.setN NN).lt; obtain ⟨j0, j1, j2, j3, j4, _⟩ := hI4; have hz4 := Hid.intro ((hR.out.h.set 3 _).z.below hb4 (hR.out.h.set 3 _).z.lt); obtain ⟨z0, z1, z2, z3, z4, zf⟩ := hz4.out.cells; have hw4 := Hid.intro (chain2 (hR.out.h.set 3 _).b hb4); clear hb4))
    have hset := hz4.out.set 0 0 0 0 0
    have hbw4 := below_setInst hw4.out (Nat.le_refl w.heap.size) 0 0 0 0 0
    change bodyPost _ _ _ _ _ (setInst _ w.heap.size 0 0 0 0 0)
    generalize setInst _ w.heap.size 0 0 0 0 0 = WX at *
    obtain ⟨y0, y1, y2, y3, y4, _⟩ := hset
    refine bodyPost_ret (by simp [results, Tryd.results12, go_sem, y0, y1, y2, y3, y4]; try rfl) rfl ?_
    exact ⟨by rw [hVH.out], hbw4⟩

set_option maxHeartbeats 4000000 in
theorem rdec_12_2 (b off cap m k : Nat) (zs : List Int) (OP c : Int) (w : World) (V : Value) (hm : m = zs.length) (hT : Tab w) (hl : Lies w (some ⟨b, off, none⟩) zs) (hbw : b < w.heap.size) (hcap : m ≤ cap) (hml : m ≤ 140737488355328) (hk : (k : Int) + 3 ≤ m) (hc : c = zs.getD k 0) (hop : ¬ (OP = 0))
    (hFi : ∀ W, Calls Tryd.prog 25 #[.int .u8 c] W fun e w' => e = .returned (.tuple #[.int .i64 OP, .int .i64 2]) ∧ Below W.heap.size W w')
    (hSi : ∀ W, Calls Tryd.prog 26 #[.int .i64 OP, .int .i64 2] W fun e w' => e = .returned (.int .i64 3) ∧ Below W.heap.size W w')
    (hSh : ∀ W, Calls Tryd.prog 27 #[.int .i64 OP] W fun e w' => e = .returned (.int .i64 12) ∧ Below W.heap.size W w')
    (hV : V = endV OP (fA 12 ((zs.drop (k + 1)).take 2)) (fB 12 ((zs.drop (k + 1)).take 2)) (fN 12 2 ((zs.drop (k + 1)).take 2)) 2 3) :
    Calls Tryd.prog 12 #[.slice (some ⟨b, off, none⟩) m cap, .int .i64 (k : Int)] w fun e w' => e = .returned V ∧ Below w.heap.size w w' := by
  have hys : (zs.drop k).take 3 = c :: (zs.drop (k + 1)).take 2 := by
    rw [List.drop_eq_getElem_cons (by omega), List.take_succ_cons, hc, List.getD_eq_getElem?_getD, List.getElem?_eq_getElem (by omega)]
    rfl
  have hsub := lies_sub hl k 3
  rw [hys] at hsub
  have hl3 : ((zs.drop (k + 1)).take 2).length = 2 := by simp; omega
  have hby := hsub.1
  generalize (zs.drop (k + 1)).take 2 = rs at *
  obtain ⟨x1, x2, rfl⟩ := list2 hl3
  have hbx1 := hby x1 (by simp)
  have hbx2 := hby x2 (by simp)
  have q0 := lies_cell hsub 0 c rfl
  rw [Nat.add_zero] at q0
  have qa := fun o => ((below_alloc w o).cell (p := ⟨b, off + k, none⟩) hbw).trans q0
  have hV2 : V = endV OP 0 0 (sgn (leN (((c :: [x1, x2]).drop 1).take 2)) 2) 2 3 := by
    rw [hV]
    first | rfl | (simp [fA, fB, fN, leN]; done)
  have hNu := Hid.intro (fun W hW => refnum_any b (off + k) (cap - k) 3 2 1 (c :: [x1, x2]) W rfl hW (by simp) (by omega) (by simp))
  have hnb : -2147483648 ≤ sgn (leN (((c :: [x1, x2]).drop 1).take 2)) 2 ∧ sgn (leN (((c :: [x1, x2]).drop 1).take 2)) 2 ≤ 2147483647 := by
    have h1 := leN_bd (((c :: [x1, x2]).drop 1).take 2) (areBytes_take _ (areBytes_drop _ hby _) _)
    simp only [List.drop, List.take, List.length] at h1 ⊢
    rw [sgn2 _ (by omega)]
    omega
  obtain ⟨NN, hNN⟩ : ∃ NN, NN = sgn (leN (((c :: [x1, x2]).drop 1).take 2)) 2 := ⟨_, rfl⟩
  rw [← hNN] at hV2 hnb
  replace hNu : Hid (∀ W, Lies W (some ⟨b, off + k, none⟩) (c :: [x1, x2]) → Calls Tryd.prog 28 #[.slice (some ⟨b, off + k, none⟩) 3 (cap - k), .int .i64 1, .int .i64 2] W fun e w' => e = .returned (.int .i32 NN) ∧ w' = W) := by
    show ∀ W, _
    rw [hNN]
    exact hNu.out
  have hnbH := Hid.intro hnb
  clear hnb hNN
  have ex1 : IntKind.i64.wrap x1 = x1 := by rw [IntKind.wrap_i64]; omega
  have rx1 : x1 % 256 = x1 := by omega
  have ex2 : IntKind.i64.wrap x2 = x2 := by rw [IntKind.wrap_i64]; omega
  have rx2 : x2 % 256 = x2 := by omega
  have hCk := Hid.intro (fun W => refCheck_any OP 0 0 NN 2 W hnbH.out)
  have hVH := Hid.intro hV2
  unfold endV at hVH
  obtain ⟨C, hC⟩ : ∃ C, C = checkN OP 0 0 NN 2 := ⟨_, rfl⟩
  rw [← hC] at hCk hVH
  have hz0 := Hid.intro (zblk_new w)
  have hTH := Hid.intro hT
  have hsubH := Hid.intro hsub
  have hFiH := Hid.intro hFi
  have hSiH := Hid.intro hSi
  have hShH := Hid.intro hSh
  have e0 : ((m : Int) - k < 3) = False := by simp; omega
  have ek : ((k : Int) == (m : Int)) = false := by simp; omega
  have hMH : Hid (k + 3 - k = 3) := (show _ = _ by omega)
  have eop : (OP == 0) = false := by simpa using hop
  have hk1 : (k : Int) < (m : Int) := by omega
  have hk2 : ¬ ((k : Int) < 0) := by omega
  have hk3 : ¬ ((k : Int) > (m : Int)) := by omega
  clear hT hsub hFi hSi hSh hV hV2 hm hl hc hys hl3 hby hC q0
  by_cases hc0 : C = 0
  · subst hc0
    rw [if_pos rfl] at hVH
    go_enter Tryd.func12, Tryd.ntmps12
    go_wp2_with (first
      | (go_at_call 25; (with_reducible refine (hFiH.out _).mono ?_); rintro e w1 ⟨rfl, hb1⟩; replace hb1 := Hid.intro hb1)
      | (go_at_call 26; (with_reducible refine (hSiH.out _).mono ?_); rintro e w2 ⟨rfl, hb2⟩; replace hb2 := Hid.intro hb2)
      | (go_at_call 27; (with_reducible refine (hShH.out _).mono ?_); rintro e w3 ⟨rfl, hb3⟩; have hR := Hid.intro (rready_of hTH.out hsubH.out hbw hb1.out hb2.out hb3); clear hb3; have hneH : Hid (b ≠ w2.heap.size) := (by show _ ≠ _; have := hR.out.bw; have := hR.out.h.le; omega); have hne := hneH.out; obtain ⟨i0, i1, i2, i3, i4, _⟩ := hR.out.i; have ff := hR.out.f; have c1 := lies_cell hR.out.l 1 x1 rfl; have c2 := lies_cell hR.out.l 2 x2 rfl)
      | (go_at_call 28; (try rw [hMH.out]); (with_reducible refine (hNu.out _ hR.out.l).mono ?_); rintro e wq ⟨rfl, rfl⟩)
      | (go_at_call 29; (with_reducible refine (hCk.out _).mono ?_); rintro e w4 ⟨rfl, hb4⟩; have hI4 := (hR.out.i.setN NN).below hb4 (hR.out.i.setN NN).lt; obtain ⟨j0, j1, j2, j3, j4, _⟩ := hI4; have hz4 := Hid.intro ((hR.out.h.set 3 _).z.below hb4 (hR.out.h.set 3 _).z.lt); obtain ⟨z0, z1, z2, z3, z4, zf⟩ := hz4.out.cells; have hw4 := Hid.intro (chain2 (hR.out.h.set 3 _).b hb4); clear hb4))
    have hset := hz4.out.set OP 0 0 NN 2
    have hbw4 := below_setInst hw4.out (Nat.le_refl w.heap.size) OP 0 0 NN 2
    change bodyPost _ _ _ _ _ (setInst _ w.heap.size OP 0 0 NN 2)
    generalize setInst _ w.heap.size OP 0 0 NN 2 = WX at *
    obtain ⟨y0, y1, y2, y3, y4, _⟩ := hset
    refine bodyPost_ret (by simp [results, Tryd.results12, go_sem, y0, y1, y2, y3, y4]; try rfl) rfl ?_
    exact ⟨by rw [hVH.out], hbw4⟩
  · rw [if_neg hc0] at hVH
    have e1 : (C == 0) = false := by simpa using hc0
    have e2 : (C != 0) = true := by simpa using hc0
    clear hc0
    go_enter Tryd.func12, Tryd.ntmps12
    go_wp2_with (first
      | (go_at_call 25; (with_reducible refine (hFiH.out _).mono ?_); rintro e w1 ⟨rfl, hb1⟩; replace hb1 := Hid.intro hb1)
      | (go_at_call 26; (with_reducible refine (hSiH.out _).mono ?_); rintro e w2 ⟨rfl, hb2⟩; replace hb2 := Hid.intro hb2)
      | (go_at_call 27; (with_reducible refine (hShH.out _).mono ?_); rintro e w3 ⟨rfl, hb3⟩; have hR := Hid.intro (rready_of hTH.out hsubH.out hbw hb1.out hb2.out hb3); clear hb3; have hneH : Hid (b ≠ w2.heap.size) := (by show _ ≠ _; have := hR.out.bw; have := hR.out.h.le; omega); have hne := hneH.out; obtain ⟨i0, i1, i2, i3, i4, _⟩ := hR.out.i; have ff := hR.out.f; have c1 := lies_cell hR.out.l 1 x1 rfl; have c2 := lies_cell hR.out.l 2 x2 rfl)
      | (go_at_call 28; (try rw [hMH.out]); (with_reducible refine (hNu.out _ hR.out.l).mono ?_); rintro e wq ⟨rfl, rfl⟩)
      | (go_at_call 29; (with_reducible refine (hCk.out _).mono ?_); rintro e w4 ⟨rfl, hb4⟩; have hI4 := (hR.out.i.setN NN).below hb4 (hR.out.i.setN NN).lt; obtain ⟨j0, j1, j2, j3, j4, _⟩ := hI4; have hz4 := Hid.intro ((hR.out.h.set 3 _).z.below hb4 (hR.out.h.set 3 _).z.lt); obtain ⟨z0, z1, z2, z3, z4, zf⟩ := hz4.out.cells; have hw4 := Hid.intro (chain2 (hR.out.h.set 3 _).b hb4); clear hb4))
    have hset := hz4.out.set 0 0 0 0 0
    have hbw4 := below_setInst hw4.out (Nat.le_refl w.heap.size) 0 0 0 0 0
    change bodyPost _ _ _ _ _ (setInst _ w.heap.size 0 0 0 0 0)
    generalize setInst _ w.heap.size 0 0 0 0 0 = WX at *
    obtain ⟨y0, y1, y2, y3, y4, _⟩ := hset
    refine bodyPost_ret (by simp [results, Tryd.results12, go_sem, y0, y1, y2, y3, y4]; try rfl) rfl ?_
    exact ⟨by rw [hVH.out], hbw4⟩

set_option maxHeartbeats 4000000 in
theorem rdec_12_4 (b off cap m k : Nat) (zs : List Int) (OP c : Int) (w : World) (V : Value) (hm : m = zs.length) (hT : Tab w) (hl : Lies w (some ⟨b, off, none⟩) zs) (hbw : b < w.heap.size) (hcap : m ≤ cap) (hml : m ≤ 140737488355328) (hk : (k : Int) + 5 ≤ m) (hc : c = zs.getD k 0) (hop : ¬ (OP = 0))
    (hFi : ∀ W, Calls Tryd.prog 25 #[.int .u8 c] W fun e w' => e = .returned (.tuple #[.int .i64 OP, .int .i64 4]) ∧ Below W.heap.size W w')
    (hSi : ∀ W, Calls Tryd.prog 26 #[.int .i64 OP, .int .i64 4] W fun e w' => e = .returned (.int .i64 5) ∧ Below W.heap.size W w')
    (hSh : ∀ W, Calls Tryd.prog 27 #[.int .i64 OP] W fun e w' => e = .returned (.int .i64 12) ∧ Below W.heap.size W w')
    (hV : V = endV OP (fA 12 ((zs.drop (k + 1)).take 4)) (fB 12 ((zs.drop (k + 1)).take 4)) (fN 12 4 ((zs.drop (k + 1)).take 4)) 4 5) :
    Calls Tryd.prog 12 #[.slice (some ⟨b, off, none⟩) m cap, .int .i64 (k : Int)] w fun e w' => e = .returned V ∧ Below w.heap.size w w' := by
  have hys : (zs.drop k).take 5 = c :: (zs.drop (k + 1)).take 4 := by
    rw [List.drop_eq_getElem_cons (by omega), List.take_succ_cons, hc, List.getD_eq_getElem?_getD, List.getElem?_eq_getElem (by omega)]
    rfl
  have hsub := lies_sub hl k 5
  rw [hys] at hsub
  have hl3 : ((zs.drop (k + 1)).take 4).length = 4 := by simp; omega
  have hby := hsub.1
  generalize (zs.drop (k + 1)).take 4 = rs at *
  obtain ⟨x1, x2, x3, x4, rfl⟩ := list4 hl3
  have hbx1 := hby x1 (by simp)
  have hbx2 := hby x2 (by simp)
  have hbx3 := hby x3 (by simp)
  have hbx4 := hby x4 (by simp)
  have q0 := lies_cell hsub 0 c rfl
  rw [Nat.add_zero] at q0
  have qa := fun o => ((below_alloc w o).cell (p := ⟨b, off + k, none⟩) hbw).trans q0
  have hV2 : V = endV OP 0 0 (sgn (leN (((c :: [x1, x2, x3, x4]).drop 1).take 4)) 4) 4 5 := by
    rw [hV]
    first | rfl | (simp [fA, fB, fN, leN]; done)
  have hNu := Hid.intro (fun W hW => refnum_any b (off + k) (cap - k) 5 4 1 (c :: [x1, x2, x3, x4]) W rfl hW (by simp) (by omega) (by simp))
  have hnb : -2147483648 ≤ sgn (leN (((c :: [x1, x2, x3, x4]).drop 1).take 4)) 4 ∧ sgn (leN (((c :: [x1, x2, x3, x4]).drop 1).take 4)) 4 ≤ 2147483647 := by
    have h1 := leN_bd (((c :: [x1, x2, x3, x4]).drop 1).take 4) (areBytes_take _ (areBytes_drop _ hby _) _)
    simp only [List.drop, List.take, List.length] at h1 ⊢
    rw [sgn4 _ (by omega)]
    omega
  obtain ⟨NN, hNN⟩ : ∃ NN, NN = sgn (leN (((c :: [x1, x2, x3, x4]).drop 1).take 4)) 4 := ⟨_, rfl⟩
  rw [← hNN] at hV2 hnb
  replace hNu : Hid (∀ W, Lies W (some ⟨b, off + k, none⟩) (c :: [x1, x2, x3, x4]) → Calls Tryd.prog 28 #[.slice (some ⟨b, off + k, none⟩) 5 (cap - k), .int .i64 1, .int .i64 4] W fun e w' => e = .returned (.int .i32 NN) ∧ w' = W) := by
    show ∀ W, _
    rw [hNN]
    exact hNu.out
  have hnbH := Hid.intro hnb
  clear hnb hNN
  have ex1 : IntKind.i64.wrap x1 = x1 := by rw [IntKind.wrap_i64]; omega
  have rx1 : x1 % 256 = x1 := by omega
  have ex2 : IntKind.i64.wrap x2 = x2 := by rw [IntKind.wrap_i64]; omega
  have rx2 : x2 % 256 = x2 := by omega
  have ex3 : IntKind.i64.wrap x3 = x3 := by rw [IntKind.wrap_i64]; omega
  have rx3 : x3 % 256 = x3 := by omega
  have ex4 : IntKind.i64.wrap x4 = x4 := by rw [IntKind.wrap_i64]; omega
  have rx4 : x4 % 256 = x4 := by omega
  have hCk := Hid.intro (fun W => refCheck_any OP 0 0 NN 4 W hnbH.out)
  have hVH := Hid.intro hV2
  unfold endV at hVH
  obtain ⟨C, hC⟩ : ∃ C, C = checkN OP 0 0 NN 4 := ⟨_, rfl⟩
  rw [← hC] at hCk hVH
  have hz0 := Hid.intro (zblk_new w)
  have hTH := Hid.intro hT
  have hsubH := Hid.intro hsub
  have hFiH := Hid.intro hFi
  have hSiH := Hid.intro hSi
  have hShH := Hid.intro hSh
  have e0 : ((m : Int) - k < 5) = False := by simp; omega
  have ek : ((k : Int) == (m : Int)) = false := by simp; omega
  have hMH : Hid (k + 5 - k = 5) := (show _ = _ by omega)
  have eop : (OP == 0) = false := by simpa using hop
  have hk1 : (k : Int) < (m : Int) := by omega
  have hk2 : ¬ ((k : Int) < 0) := by omega
  have hk3 : ¬ ((k : Int) > (m : Int)) := by omega
  clear hT hsub hFi hSi hSh hV hV2 hm hl hc hys hl3 hby hC q0
  by_cases hc0 : C = 0
  · subst hc0
    rw [if_pos rfl] at hVH
    go_enter Tryd.func12, Tryd.ntmps12
    go_wp2_with (first
      | (go_at_call 25; (with_reducible refine (hFiH.out _).mono ?_); rintro e w1 ⟨rfl, hb1⟩; replace hb1 := Hid.intro hb1)
      | (go_at_call 26; (with_reducible refine (hSiH.out _).mono ?_); rintro e w2 ⟨rfl, hb2⟩; replace hb2 := Hid.intro hb2)
      | (go_at_call 27; (with_reducible refine (hShH.out _).mono ?_); rintro e w3 ⟨rfl, hb3⟩; have hR := Hid.intro (rready_of hTH.out hsubH.out hbw hb1.out hb2.out hb3); clear hb3; have hneH : Hid (b ≠ w2.heap.size) := (by show _ ≠ _; have := hR.out.bw; have := hR.out.h.le; omega); have hne := hneH.out; obtain ⟨i0, i1, i2, i3, i4, _⟩ := hR.out.i; have ff := hR.out.f; have c1 := lies_cell hR.out.l 1 x1 rfl; have c2 := lies_cell hR.out.l 2 x2 rfl; have c3 := lies_cell hR.out.l 3 x3 rfl; have c4 := lies_cell hR.out.l 4 x4 rfl)
      | (go_at_call 28; (try rw [hMH.out]); (with_reducible refine (hNu.out _ hR.out.l).mono ?_); rintro e wq ⟨rfl, rfl⟩)
      | (go_at_call 29; (with_reducible refine (hCk.out _).mono ?_); rintro e w4 ⟨rfl, hb4⟩; have hI4 := (hR.out.i.setN NN).below hb4 (hR.out.i.setN NN).lt; obtain ⟨j0, j1, j2, j3, j4, _⟩ := hI4; have hz4 := Hid.intro ((hR.out.h.set 3 _).z.below hb4 (hR.out.h.set 3 _).z.lt); obtain ⟨z0, z1, z2, z3, z4, zf⟩ := hz4.out.cells; have hw4 := Hid.intro (chain2 (hR.out.h.set 3 _).b hb4); clear hb4))
    have hset := hz4.out.set OP 0 0 NN 4
    have hbw4 := below_setInst hw4.out (Nat.le_refl w.heap.size) OP 0 0 NN 4
    change bodyPost _ _ _ _ _ (setInst _ w.heap.size OP 0 0 NN 4)
    generalize setInst _ w.heap.size OP 0 0 NN 4 = WX at *
    obtain ⟨y0, y1, y2, y3, y4, _⟩ := hset
    refine bodyPost_ret (by simp [results, Tryd.results12, go_sem, y0, y1, y2, y3, y4]; try rfl) rfl ?_
    exact ⟨by rw [hVH.out], hbw4⟩
  · rw [if_neg hc0] at hVH
    have e1 : (C == 0) = false := by simpa using hc0
    have e2 : (C != 0) = true := by simpa using hc0
    clear hc0
    go_enter Tryd.func12, Tryd.ntmps12
    go_wp2_with (first
      | (go_at_call 25; (with_reducible refine (hFiH.out _).mono ?_); rintro e w1 ⟨rfl, hb1⟩; replace hb1 := Hid.intro hb1)
      | (go_at_call 26; (with_reducible refine (hSiH.out _).mono ?_); rintro e w2 ⟨rfl, hb2⟩; replace hb2 := Hid.intro hb2)
      | (go_at_call 27; (with_reducible refine (hShH.out _).mono ?_); rintro e w3 ⟨rfl, hb3⟩; have hR := Hid.intro (rready_of hTH.out hsubH.out hbw hb1.out hb2.out hb3); clear hb3; have hneH : Hid (b ≠ w2.heap.size) := (by show _ ≠ _; have := hR.out.bw; have := hR.out.h.le; omega); have hne := hneH.out; obtain ⟨i0, i1, i2, i3, i4, _⟩ := hR.out.i; have ff := hR.out.f; have c1 := lies_cell hR.out.l 1 x1 rfl; have c2 := lies_cell hR.out.l 2 x2 rfl; have c3 := lies_cell hR.out.l 3 x3 rfl; have c4 := lies_cell hR.out.l 4 x4 rfl)
      | (go_at_call 28; (try rw [hMH.out]); (with_reducible refine (hNu.out _ hR.out.l).mono ?_); rintro e wq ⟨rfl, rfl⟩)
      | (go_at_call 29; (with_reducible refine (hCk.out _).mono ?_); rintro e w4 ⟨rfl, hb4⟩; have hI4 := (hR.out.i.setN NN).below hb4 (hR.out.i.setN NN).lt; obtain ⟨j0, j1, j2, j3, j4, _⟩ := hI4; have hz4 := Hid.intro ((hR.out.h.set 3 _).z.below hb4 (hR.out.h.set 3 _).z.lt); obtain ⟨z0, z1, z2, z3, z4, zf⟩ := hz4.out.cells; have hw4 := Hid.intro (chain2 (hR.out.h.set 3 _).b hb4); clear hb4))
    have hset := hz4.out.set 0 0 0 0 0
    have hbw4 := below_setInst hw4.out (Nat.le_refl w.heap.size) 0 0 0 0 0
    change bodyPost _ _ _ _ _ (setInst _ w.heap.size 0 0 0 0 0)
    generalize setInst _ w.heap.size 0 0 0 0 0 = WX at *
    obtain ⟨y0, y1, y2, y3, y4, _⟩ := hset
    refine bodyPost_ret (by simp [results, Tryd.results12, go_sem, y0, y1, y2, y3, y4]; try rfl) rfl ?_
    exact ⟨by rw [hVH.out], hbw4⟩

set_option maxHeartbeats 4000000 in
theorem rdec_13_1 (b off cap m k : Nat) (zs : List Int) (OP c : Int) (w : World) (V : Value) (hm : m = zs.length) (hT : Tab w) (hl : Lies w (some ⟨b, off, none⟩) zs) (hbw : b < w.heap.size) (hcap : m ≤ cap) (hml : m ≤ 140737488355328) (hk : (k : Int) + 3 ≤ m) (hc : c = zs.getD k 0) (hop : ¬ (OP = 0))
    (hFi : ∀ W, Calls Tryd.prog 25 #[.int .u8 c] W fun e w' => e = .returned (.tuple #[.int .i64 OP, .int .i64 1]) ∧ Below W.heap.size W w')
    (hSi : ∀ W, Calls Tryd.prog 26 #[.int .i64 OP, .int .i64 1] W fun e w' => e = .returned (.int .i64 3) ∧ Below W.heap.size W w')
    (hSh : ∀ W, Calls Tryd.prog 27 #[.int .i64 OP] W fun e w' => e = .returned (.int .i64 13) ∧ Below W.heap.size W w')
    (hV : V = endV OP (fA 13 ((zs.drop (k + 1)).take 2)) (fB 13 ((zs.drop (k + 1)).take 2)) (fN 13 1 ((zs.drop (k + 1)).take 2)) 1 3) :
    Calls Tryd.prog 12 #[.slice (some ⟨b, off, none⟩) m cap, .int .i64 (k : Int)] w fun e w' => e = .returned V ∧ Below w.heap.size w w' := by
  have hys : (zs.drop k).take 3 = c :: (zs.drop (k + 1)).take 2 := by
    rw [List.drop_eq_getElem_cons (by omega), List.take_succ_cons, hc, List.getD_eq_getElem?_getD, List.getElem?_eq_getElem (by omega)]
    rfl
  have hsub := lies_sub hl k 3
  rw [hys] at hsub
  have hl3 : ((zs.drop (k + 1)).take 2).length = 2 := by simp; omega
  have hby := hsub.1
  generalize (zs.drop (k + 1)).take 2 = rs at *
  obtain ⟨x1, x2, rfl⟩ := list2 hl3
  have hbx1 := hby x1 (by simp)
  have hbx2 := hby x2 (by simp)
  have q0 := lies_cell hsub 0 c rfl
  rw [Nat.add_zero] at q0
  have qa := fun o => ((below_alloc w o).cell (p := ⟨b, off + k, none⟩) hbw).trans q0
  have hV2 : V = endV OP x1 0 (sgn (leN (((c :: [x1, x2]).drop 2).take 1)) 1) 1 3 := by
    rw [hV]
    first | rfl | (simp [fA, fB, fN, leN]; done)
  have hNu := Hid.intro (fun W hW => refnum_any b (off + k) (cap - k) 3 1 2 (c :: [x1, x2]) W rfl hW (by simp) (by omega) (by simp))
  have hnb : -2147483648 ≤ sgn (leN (((c :: [x1, x2]).drop 2).take 1)) 1 ∧ sgn (leN (((c :: [x1, x2]).drop 2).take 1)) 1 ≤ 2147483647 := by
    have h1 := leN_bd (((c :: [x1, x2]).drop 2).take 1) (areBytes_take _ (areBytes_drop _ hby _) _)
    simp only [List.drop, List.take, List.length] at h1 ⊢
    rw [sgn1 _ (by omega)]
    omega
  obtain ⟨NN, hNN⟩ : ∃ NN, NN = sgn (leN (((c :: [x1, x2]).drop 2).take 1)) 1 := ⟨_, rfl⟩
  rw [← hNN] at hV2 hnb
  replace hNu : Hid (∀ W, Lies W (some ⟨b, off + k, none⟩) (c :: [x1, x2]) → Calls Tryd.prog 28 #[.slice (some ⟨b, off + k, none⟩) 3 (cap - k), .int .i64 2, .int .i64 1] W fun e w' => e = .returned (.int .i32 NN) ∧ w' = W) := by
    show ∀ W, _
    rw [hNN]
    exact hNu.out
  have hnbH := Hid.intro hnb
  clear hnb hNN
  have ex1 : IntKind.i64.wrap x1 = x1 := by rw [IntKind.wrap_i64]; omega
  have rx1 : x1 % 256 = x1 := by omega
  have ex2 : IntKind.i64.wrap x2 = x2 := by rw [IntKind.wrap_i64]; omega
  have rx2 : x2 % 256 = x2 := by omega
  have hCk := Hid.intro (fun W => refCheck_any OP x1 0 NN 1 W hnbH.out)
  have hVH := Hid.intro hV2
  unfold endV at hVH
  obtain ⟨C, hC⟩ : ∃ C, C = checkN OP x1 0 NN 1 := ⟨_, rfl⟩
  rw [← hC] at hCk hVH
  have hz0 := Hid.intro (zblk_new w)
  have hTH := Hid.intro hT
  have hsubH := Hid.intro hsub
  have hFiH := Hid.intro hFi
  have hSiH := Hid.intro hSi
  have hShH := Hid.intro hSh
  have e0 : ((m : Int) - k < 3) = False := by simp; omega
  have ek : ((k : Int) == (m : Int)) = false := by simp; omega
  have hMH : Hid (k + 3 - k = 3) := (show _ = _ by omega)
  have eop : (OP == 0) = false := by simpa using hop
  have hk1 : (k : Int) < (m : Int) := by omega
  have hk2 : ¬ ((k : Int) < 0) := by omega
  have hk3 : ¬ ((k : Int) > (m : Int)) := by omega
  clear hT hsub hFi hSi hSh hV hV2 hm hl hc hys hl3 hby hC q0
  by_cases hc0 : C = 0
  · subst hc0
    rw [if_pos rfl] at hVH
    go_enter Tryd.func12, Tryd.ntmps12
    go_wp2_with (first
      | (go_at_call 25; (with_reducible refine (hFiH.out _).mono ?_); rintro e w1 ⟨rfl, hb1⟩; replace hb1 := Hid.intro hb1)
      | (go_at_call 26; (with_reducible refine (hSiH.out _).mono ?_); rintro e w2 ⟨rfl, hb2⟩; replace hb2 := Hid.intro hb2)
      | (go_at_call 27; (with_reducible refine (hShH.out _).mono ?_); rintro e w3 ⟨rfl, hb3⟩; have hR := Hid.intro (rready_of hTH.out hsubH.out hbw hb1.out hb2.out hb3); clear hb3; have hneH : Hid (b ≠ w2.heap.size) := (by show _ ≠ _; have := hR.out.bw; have := hR.out.h.le; omega); have hne := hneH.out; obtain ⟨i0, i1, i2, i3, i4, _⟩ := hR.out.i; have ff := hR.out.f; have c1 := lies_cell hR.out.l 1 x1 rfl; have c2 := lies_cell hR.out.l 2 x2 rfl)
      | (go_at_call 28; (try rw [hMH.out]); (with_reducible refine (hNu.out _ (hR.out.l.set _ 1 _ (fun b' o' h => by cases h; exact hneH.out))).mono ?_); rintro e wq ⟨rfl, rfl⟩)
      | (go_at_call 29; (with_reducible refine (hCk.out _).mono ?_); rintro e w4 ⟨rfl, hb4⟩; have hI4 := ((hR.out.i.setA x1).setN NN).below hb4 ((hR.out.i.setA x1).setN NN).lt; obtain ⟨j0, j1, j2, j3, j4, _⟩ := hI4; have hz4 := Hid.intro (((hR.out.h.set 1 _).set 3 _).z.below hb4 ((hR.out.h.set 1 _).set 3 _).z.lt); obtain ⟨z0, z1, z2, z3, z4, zf⟩ := hz4.out.cells; have hw4 := Hid.intro (chain2 ((hR.out.h.set 1 _).set 3 _).b hb4); clear hb4))
    have hset := hz4.out.set OP x1 0 NN 1
    have hbw4 := below_setInst hw4.out (Nat.le_refl w.heap.size) OP x1 0 NN 1
    change bodyPost _ _ _ _ _ (setInst _ w.heap.size OP x1 0 NN 1)
    generalize setInst _ w.heap.size OP x1 0 NN 1 = WX at *
    obtain ⟨y0, y1, y2, y3, y4, _⟩ := hset
    refine bodyPost_ret (by simp [results, Tryd.results12, go_sem, y0, y1, y2, y3, y4]; try rfl) rfl ?_
    exact ⟨by rw [hVH.out], hbw4⟩
  · rw [if_neg hc0] at hVH
    have e1 : (C == 0) = false := by simpa using hc0
    have e2 : (C != 0) = true := by simpa using hc0
    clear hc0
    go_enter Tryd.func12, Tryd.ntmps12
    go_wp2_with (first
      | (go_at_call 25; (with_reducible refine (hFiH.out _).mono ?_); rintro e w1 ⟨rfl, hb1⟩; replace hb1 := Hid.intro hb1)
      | (go_at_call 26; (with_reducible refine (hSiH.out _).mono ?_); rintro e w2 ⟨rfl, hb2⟩; replace hb2 := Hid.intro hb2)
      | (go_at_call 27; (with_reducible refine (hShH.out _).mono ?_); rintro e w3 ⟨rfl, hb3⟩; have hR := Hid.intro (rready_of hTH.out hsubH.out hbw hb1.out hb2.out hb3); clear hb3; have hneH : Hid (b ≠ w2.heap.size) := (by show _ ≠ _; have := hR.out.bw; have := hR.out.h.le; omega); have hne := hneH.out; obtain ⟨i0, i1, i2, i3, i4, _⟩ := hR.out.i; have ff := hR.out.f; have c1 := lies_cell hR.out.l 1 x1 rfl; have c2 := lies_cell hR.out.l 2 x2 rfl)
      | (go_at_call 28; (try rw [hMH.out]); (with_reducible refine (hNu.out _ (hR.out.l.set _ 1 _ (fun b' o' h => by cases h; exact hneH.out))).mono ?_); rintro e wq ⟨rfl, rfl⟩)
      | (go_at_call 29; (with_reducible refine (hCk.out _).mono ?_); rintro e w4 ⟨rfl, hb4⟩; have hI4 := ((hR.out.i.setA x1).setN NN).below hb4 ((hR.out.i.setA x1).setN NN).lt; obtain ⟨j0, j1, j2, j3, j4, _⟩ := hI4; have hz4 := Hid.intro (((hR.out.h.set 1 _).set 3 _).z.below hb4 ((hR.out.h.set 1 _).set 3 _).z.lt); obtain ⟨z0, z1, z2, z3, z4, zf⟩ := hz4.out.cells; have hw4 := Hid.intro (chain2 ((hR.out.h.set 1 _).set 3 _).b hb4); clear hb4))
    have hset := hz4.out.set 0 0 0 0 0
    have hbw4 := below_setInst hw4.out (Nat.le_refl w.heap.size) 0 0 0 0 0
    change bodyPost _ _ _ _ _ (setInst _ w.heap.size 0 0 0 0 0)
    generalize setInst _ w.heap.size 0 0 0 0 0 = WX at *
    obtain ⟨y0, y1, y2, y3, y4, _⟩ := hset
    refine bodyPost_ret (by simp [results, Tryd.results12, go_sem, y0, y1, y2, y3, y4]; try rfl) rfl ?_
    exact ⟨by rw [hVH.out], hbw4⟩

set_option maxHeartbeats 4000000 in
theorem rdec_13_2 (b off cap m k : Nat) (zs : List Int) (OP c : Int) (w : World) (V : Value) (hm : m = zs.length) (hT : Tab w) (hl : Lies w (some ⟨b, off, none⟩) zs) (hbw : b < w.heap.size) (hcap : m ≤ cap) (hml : m ≤ 140737488355328) (hk : (k : Int) + 4 ≤ m) (hc : c = zs.getD k 0) (hop : ¬ (OP = 0))
    (hFi : ∀ W, Calls Tryd.prog 25 #[.int .u8 c] W fun e w' => e = .returned (.tuple #[.int .i64 OP, .int .i64 2]) ∧ Below W.heap.size W w')
    (hSi : ∀ W, Calls Tryd.prog 26 #[.int .i64 OP, .int .i64 2] W fun e w' => e = .returned (.int .i64 4) ∧ Below W.heap.size W w')
    (hSh : ∀ W, Calls Tryd.prog 27 #[.int .i64 OP] W fun e w' => e = .returned (.int .i64 13) ∧ Below W.heap.size W w')
    (hV : V = endV OP (fA 13 ((zs.drop (k + 1)).take 3)) (fB 13 ((zs.drop (k + 1)).take 3)) (fN 13 2 ((zs.drop (k + 1)).take 3)) 2 4) :
    Calls Tryd.prog 12 #[.slice (some ⟨b, off, none⟩) m cap, .int .i64 (k : Int)] w fun e w' => e = .returned V ∧ Below w.heap.size w w' := by
  have hys : (zs.drop k).take 4 = c :: (zs.drop (k + 1)).take 3 := by
    rw [List.drop_eq_getElem_cons (by omega), List.take_succ_cons, hc, List.getD_eq_getElem?_getD, List.getElem?_eq_getElem (by omega)]
    rfl
  have hsub := lies_sub hl k 4
  rw [hys] at hsub
  have hl3 : ((zs.drop (k + 1)).take 3).length = 3 := by simp; omega
  have hby := hsub.1
  generalize (zs.drop (k + 1)).take 3 = rs at *
  obtain ⟨x1, x2, x3, rfl⟩ := list3 hl3
  have hbx1 := hby x1 (by simp)
  have hbx2 := hby x2 (by simp)
  have hbx3 := hby x3 (by simp)
  have q0 := lies_cell hsub 0 c rfl
  rw [Nat.add_zero] at q0
  have qa := fun o => ((below_alloc w o).cell (p := ⟨b, off + k, none⟩) hbw).trans q0
  have hV2 : V = endV OP x1 0 (sgn (leN (((c :: [x1, x2, x3]).drop 2).take 2)) 2) 2 4 := by
    rw [hV]
    first | rfl | (simp [fA, fB, fN, leN]; done)
  have hNu := Hid.intro (fun W hW => refnum_any b (off + k) (cap - k) 4 2 2 (c :: [x1, x2, x3]) W rfl hW (by simp) (by omega) (by simp))
  have hnb : -2147483648 ≤ sgn (leN (((c :: [x1, x2, x3]).drop 2).take 2)) 2 ∧ sgn (leN (((c :: [x1, x2, x3]).drop 2).take 2)) 2 ≤ 2147483647 := by
    have h1 := leN_bd (((c :: [x1, x2, x3]).drop 2).take 2) (areBytes_take _ (areBytes_drop _ hby _) _)
    simp only [List.drop, List.take, List.length] at h1 ⊢
    rw [sgn2 _ (by omega)]
    omega
  obtain ⟨NN, hNN⟩ : ∃ NN, NN = sgn (leN (((c :: [x1, x2, x3]).drop 2).take 2)) 2 := ⟨_, rfl⟩
  rw [← hNN] at hV2 hnb
  replace hNu : Hid (∀ W, Lies W (some ⟨b, off + k, none⟩) (c :: [x1, x2, x3]) → Calls Tryd.prog 28 #[.slice (some ⟨b, off + k, none⟩) 4 (cap - k), .int .i64 2, .int .i64 2] W fun e w' => e = .returned (.int .i32 NN) ∧ w' = W) := by
    show ∀ W, _
    rw [hNN]
    exact hNu.out
  have hnbH := Hid.intro hnb
  clear hnb hNN
  have ex1 : IntKind.i64.wrap x1 = x1 := by rw [IntKind.wrap_i64]; omega
  have rx1 : x1 % 256 = x1 := by omega
  have ex2 : IntKind.i64.wrap x2 = x2 := by rw [IntKind.wrap_i64]; omega
  have rx2 : x2 % 256 = x2 := by omega
  have ex3 : IntKind.i64.wrap x3 = x3 := by rw [IntKind.wrap_i64]; omega
  have rx3 : x3 % 256 = x3 := by omega
  have hCk := Hid.intro (fun W => refCheck_any OP x1 0 NN 2 W hnbH.out)
  have hVH := Hid.intro hV2
  unfold endV at hVH
  obtain ⟨C, hC⟩ : ∃ C, C = checkN OP x1 0 NN 2 := ⟨_, rfl⟩
  rw [← hC] at hCk hVH
  have hz0 := Hid.intro (zblk_new w)
  have hTH := Hid.intro hT
  have hsubH := Hid.intro hsub
  have hFiH := Hid.intro hFi
  have hSiH := Hid.intro hSi
  have hShH := Hid.intro hSh
  have e0 : ((m : Int) - k < 4) = False := by simp; omega
  have ek : ((k : Int) == (m : Int)) = false := by simp; omega
  have hMH : Hid (k + 4 - k = 4) := (show _ = _ by omega)
  have eop : (OP == 0) = false := by simpa using hop
  have hk1 : (k : Int) < (m : Int) := by omega
  have hk2 : ¬ ((k : Int) < 0) := by omega
  have hk3 : ¬ ((k : Int) > (m : Int)) := by omega
  clear hT hsub hFi hSi hSh hV hV2 hm hl hc hys hl3 hby hC q0
  by_cases hc0 : C = 0
  · subst hc0
    rw [if_pos rfl] at hVH
    go_enter Tryd.func12, Tryd.ntmps12
    go_wp2_with (first
      | (go_at_call 25; (with_reducible refine (hFiH.out _).mono ?_); rintro e w1 ⟨rfl, hb1⟩; replace hb1 := Hid.intro hb1)
      | (go_at_call 26; (with_reducible refine (hSiH.out _).mono ?_); rintro e w2 ⟨rfl, hb2⟩; replace hb2 := Hid.intro hb2)
      | (go_at_call 27; (with_reducible refine (hShH.out _).mono ?_); rintro e w3 ⟨rfl, hb3⟩; have hR := Hid.intro (rready_of hTH.out hsubH.out hbw hb1.out hb2.out hb3); clear hb3; have hneH : Hid (b ≠ w2.heap.size) := (by show _ ≠ _; have := hR.out.bw; have := hR.out.h.le; omega); have hne := hneH.out; obtain ⟨i0, i1, i2, i3, i4, _⟩ := hR.out.i; have ff := hR.out.f; have c1 := lies_cell hR.out.l 1 x1 rfl; have c2 := lies_cell hR.out.l 2 x2 rfl; have c3 := lies_cell hR.out.l 3 x3 rfl)
      | (go_at_call 28; (try rw [hMH.out]); (with_reducible refine (hNu.out _ (hR.out.l.set _ 1 _ (fun b' o' h => by cases h; exact hneH.out))).mono ?_); rintro e wq ⟨rfl, rfl⟩)
      | (go_at_call 29; (with_reducible refine (hCk.out _).mono ?_); rintro e w4 ⟨rfl, hb4⟩; have hI4 := ((hR.out.i.setA x1).setN NN).below hb4 ((hR.out.i.setA x1).setN NN).lt; obtain ⟨j0, j1, j2, j3, j4, _⟩ := hI4; have hz4 := Hid.intro (((hR.out.h.set 1 _).set 3 _).z.below hb4 ((hR.out.h.set 1 _).set 3 _).z.lt); obtain ⟨z0, z1, z2, z3, z4, zf⟩ := hz4.out.cells; have hw4 := Hid.intro (chain2 ((hR.out.h.set 1 _).set 3 _).b hb4); clear hb4))
    have hset := hz4.out.set OP x1 0 NN 2
    have hbw4 := below_setInst hw4.out (Nat.le_refl w.heap.size) OP x1 0 NN 2
    change bodyPost _ _ _ _ _ (setInst _ w.heap.size OP x1 0 NN 2)
    generalize setInst _ w.heap.size OP x1 0 NN 2 = WX at *
    obtain ⟨y0, y1, y2, y3, y4, _⟩ := hset
    refine bodyPost_ret (by simp [results, Tryd.results12, go_sem, y0, y1, y2, y3, y4]; try rfl) rfl ?_
    exact ⟨by rw [hVH.out], hbw4⟩
  · rw [if_neg hc0] at hVH
    have e1 : (C == 0) = false := by simpa using hc0
    have e2 : (C != 0) = true := by simpa using hc0
    clear hc0
    go_enter Tryd.func12, Tryd.ntmps12
    go_wp2_with (first
      | (go_at_call 25; (with_reducible refine (hFiH.out _).mono ?_); rintro e w1 ⟨rfl, hb1⟩; replace hb1 := Hid.intro hb1)
      | (go_at_call 26; (with_reducible refine (hSiH.out _).mono ?_); rintro e w2 ⟨rfl, hb2⟩; replace hb2 := Hid.intro hb2)
      | (go_at_call 27; (with_reducible refine (hShH.out _).mono ?_); rintro e w3 ⟨rfl, hb3⟩; have hR := Hid.intro (rready_of hTH.out hsubH.out hbw hb1.out hb2.out hb3); clear hb3; have hneH : Hid (b ≠ w2.heap.size) := (by show _ ≠ _; have := hR.out.bw; have := hR.out.h.le; omega); have hne := hneH.out; obtain ⟨i0, i1, i2, i3, i4, _⟩ := hR.out.i; have ff := hR.out.f; have c1 := lies_cell hR.out.l 1 x1 rfl; have c2 := lies_cell hR.out.l 2 x2 rfl; have c3 := lies_cell hR.out.l 3 x3 rfl)
      | (go_at_call 28; (try rw [hMH.out]); (with_reducible refine (hNu.out _ (hR.out.l.set _ 1 _ (fun b' o' h => by cases h; exact hneH.out))).mono ?_); rintro e wq ⟨rfl, rfl⟩)
      | (go_at_call 29; (with_reducible refine (hCk.out _).mono ?_); rintro e w4 ⟨rfl, hb4⟩; have hI4 := ((hR.out.i.setA x1).setN NN).below hb4 ((hR.out.i.setA x1).setN NN).lt; obtain ⟨j0, j1, j2, j3, j4, _⟩ := hI4; have hz4 := Hid.intro (((hR.out.h.set 1 _).set 3 _).z.below hb4 ((hR.out.h.set 1 _).set 3 _).z.lt); obtain ⟨z0, z1, z2, z3, z4, zf⟩ := hz4.out.cells; have hw4 := Hid.intro (chain2 ((hR.out.h.set 1 _).set 3 _).b hb4); clear hb4))
    have hset := hz4.out.set 0 0 0 0 0
    have hbw4 := below_setInst hw4.out (Nat.le_refl w.heap.size) 0 0 0 0 0
    change bodyPost _ _ _ _ _ (setInst _ w.heap.size 0 0 0 0 0)
    generalize setInst _ w.heap.size 0 0 0 0 0 = WX at *
    obtain ⟨y0, y1, y2, y3, y4, _⟩ := hset
    refine bodyPost_ret (by simp [results, Tryd.results12, go_sem, y0, y1, y2, y3, y4]; try rfl) rfl ?_
    exact ⟨by rw [hVH.out], hbw4⟩

set_option maxHeartbeats 4000000 in
theorem rdec_13_4 (b off cap m k : Nat) (zs : List Int) (OP c : Int) (w : World) (V : Value) (hm : m = zs.length) (hT : Tab w) (hl : Lies w (some ⟨b, off, none⟩) zs) (hbw : b < w.heap.size) (hcap : m ≤ cap) (hml : m ≤ 140737488355328) (hk : (k : Int) + 6 ≤ m) (hc : c = zs.getD k 0) (hop : ¬ (OP = 0))
    (hFi : ∀ W, Calls Tryd.prog 25 #[.int .u8 c] W fun e w' => e = .returned (.tuple #[.int .i64 OP, .int .i64 4]) ∧ Below W.heap.size W w')
    (hSi : ∀ W, Calls Tryd.prog 26 #[.int .i64 OP, .int .i64 4] W fun e w' => e = .returned (.int .i64 6) ∧ Below W.heap.size W w')
    (hSh : ∀ W, Calls Tryd.prog 27 #[.int .i64 OP] W fun e w' => e = .returned (.int .i64 13) ∧ Below W.heap.size W w')
    (hV : V = endV OP (fA 13 ((zs.drop (k + 1)).take 5)) (fB 13 ((zs.drop (k + 1)).take 5)) (fN 13 4 ((zs.drop (k + 1)).take 5)) 4 6) :
    Calls Tryd.prog 12 #[.slice (some ⟨b, off, none⟩) m cap, .int .i64 (k : Int)] w fun e w' => e = .returned V ∧ Below w.heap.size w w' := by
  have hys : (zs.drop k).take 6 = c :: (zs.drop (k + 1)).take 5 := by
    rw [List.drop_eq_getElem_cons (by omega), List.take_succ_cons, hc, List.getD_eq_getElem?_getD, List.getElem?_eq_getElem (by omega)]
    rfl
  have hsub := lies_sub hl k 6
  rw [hys] at hsub
  have hl3 : ((zs.drop (k + 1)).take 5).length = 5 := by simp; omega
  have hby := hsub.1
  generalize (zs.drop (k + 1)).take 5 = rs at *
  obtain ⟨x1, x2, x3, x4, x5, rfl⟩ := list5 hl3
  have hbx1 := hby x1 (by simp)
  have hbx2 := hby x2 (by simp)
  have hbx3 := hby x3 (by simp)
  have hbx4 := hby x4 (by simp)
  have hbx5 := hby x5 (by simp)
  have q0 := lies_cell hsub 0 c rfl
  rw [Nat.add_zero] at q0
  have qa := fun o => ((below_alloc w o).cell (p := ⟨b, off + k, none⟩) hbw).trans q0
  have hV2 : V = endV OP x1 0 (sgn (leN (((c :: [x1, x2, x3, x4, x5]).drop 2).take 4)) 4) 4 6 := by
    rw [hV]
    first | rfl | (simp [fA, fB, fN, leN]; done)
  have hNu := Hid.intro (fun W hW => refnum_any b (off + k) (cap - k) 6 4 2 (c :: [x1, x2, x3, x4, x5]) W rfl hW (by simp) (by omega) (by simp))
  have hnb : -2147483648 ≤ sgn (leN (((c :: [x1, x2, x3, x4, x5]).drop 2).take 4)) 4 ∧ sgn (leN (((c :: [x1, x2, x3, x4, x5]).drop 2).take 4)) 4 ≤ 2147483647 := by
    have h1 := leN_bd (((c :: [x1, x2, x3, x4, x5]).drop 2).take 4) (areBytes_take _ (areBytes_drop _ hby _) _)
    simp only [List.drop, List.take, List.length] at h1 ⊢
    rw [sgn4 _ (by omega)]
    omega
  obtain ⟨NN, hNN⟩ : ∃ NN, NN = sgn (leN (((c :: [x1, x2, x3, x4, x5]).drop 2).take 4)) 4 := ⟨_, rfl⟩
  rw [← hNN] at hV2 hnb
  replace hNu : Hid (∀ W, Lies W (some ⟨b, off + k, none⟩) (c :: [x1, x2, x3, x4, x5]) → Calls Tryd.prog 28 #[.slice (some ⟨b, off + k, none⟩) 6 (cap - k), .int .i64 2, .int .i64 4] W fun e w' => e = .returned (.int .i32 NN) ∧ w' = W) := by
    show ∀ W, _
    rw [hNN]
    exact hNu.out
  have hnbH := Hid.intro hnb
  clear hnb hNN
  have ex1 : IntKind.i64.wrap x1 = x1 := by rw [IntKind.wrap_i64]; omega
  have rx1 : x1 % 256 = x1 := by omega
  have ex2 : IntKind.i64.wrap x2 = x2 := by rw [IntKind.wrap_i64]; omega
  have rx2 : x2 % 256 = x2 := by omega
  have ex3 : IntKind.i64.wrap x3 = x3 := by rw [IntKind.wrap_i64]; omega
  have rx3 : x3 % 256 = x3 := by omega
  have ex4 : IntKind.i64.wrap x4 = x4 := by rw [IntKind.wrap_i64]; omega
  have rx4 : x4 % 256 = x4 := by omega
  have ex5 : IntKind.i64.wrap x5 = x5 := by rw [IntKind.wrap_i64]; omega
  have rx5 : x5 % 256 = x5 := by omega
  have hCk := Hid.intro (fun W => refCheck_any OP x1 0 NN 4 W hnbH.out)
  have hVH := Hid.intro hV2
  unfold endV at hVH
  obtain ⟨C, hC⟩ : ∃ C, C = checkN OP x1 0 NN 4 := ⟨_, rfl⟩
  rw [← hC] at hCk hVH
  have hz0 := Hid.intro (zblk_new w)
  have hTH := Hid.intro hT
  have hsubH := Hid.intro hsub
  have hFiH := Hid.intro hFi
  have hSiH := Hid.intro hSi
  have hShH := Hid.intro hSh
  have e0 : ((m : Int) - k < 6) = False := by simp; omega
  have ek : ((k : Int) == (m : Int)) = false := by simp; omega
  have hMH : Hid (k + 6 - k = 6) := (show _ = _ by omega)
  have eop : (OP == 0) = false := by simpa using hop
  have hk1 : (k : Int) < (m : Int) := by omega
  have hk2 : ¬ ((k : Int) < 0) := by omega
  have hk3 : ¬ ((k : Int) > (m : Int)) := by omega
  clear hT hsub hFi hSi hSh hV hV2 hm hl hc hys hl3 hby hC q0
  by_cases hc0 : C = 0
  · subst hc0
    rw [if_pos rfl] at hVH
    go_enter Tryd.func12, Tryd.ntmps12
    go_wp2_with (first
      | (go_at_call 25; (with_reducible refine (hFiH.out _).mono ?_); rintro e w1 ⟨rfl, hb1⟩; replace hb1 := Hid.intro hb1)
      | (go_at_call 26; (with_reducible refine (hSiH.out _).mono ?_); rintro e w2 ⟨rfl, hb2⟩; replace hb2 := Hid.intro hb2)
      | (go_at_call 27; (with_reducible refine (hShH.out _).mono ?_); rintro e w3 ⟨rfl, hb3⟩; have hR := Hid.intro (rready_of hTH.out hsubH.out hbw hb1.out hb2.out hb3); clear hb3; have hneH : Hid (b ≠ w2.heap.size) := (by show _ ≠ _; have := hR.out.bw; have := hR.out.h.le; omega); have hne := hneH.out; obtain ⟨i0, i1, i2, i3, i4, _⟩ := hR.out.i; have ff := hR.out.f; have c1 := lies_cell hR.out.l 1 x1 rfl; have c2 := lies_cell hR.out.l 2 x2 rfl; have c3 := lies_cell hR.out.l 3 x3 rfl; have c4 := lies_cell hR.out.l 4 x4 rfl; have c5 := lies_cell hR.out.l 5 x5 rfl)
      | (go_at_call 28; (try rw [hMH.out]); (with_reducible refine (hNu.out _ (hR.out.l.set _ 1 _ (fun b' o' h => by cases h; exact hneH.out))).mono ?_); rintro e wq ⟨rfl, rfl⟩)
      | (go_at_call 29; (with_reducible refine (hCk.out _).mono ?_); rintro e w4 ⟨rfl, hb4⟩; have hI4 := ((hR.out.i.setA x1).setN NN).below hb4 ((hR.out.i.setA x1).setN NN).lt; obtain ⟨j0, j1, j2, j3, j4, _⟩ := hI4; have hz4 := Hid.intro (((hR.out.h.set 1 _).set 3 _).z.below hb4 ((hR.out.h.set 1 _).set 3 _).z.lt); obtain ⟨z0, z1, z2, z3, z4, zf⟩ := hz4.out.cells; have hw4 := Hid.intro (chain2 ((hR.out.h.set 1 _).set 3 _).b hb4); clear hb4))
    have hset := hz4.out.set OP x1 0 NN 4
    have hbw4 := below_setInst hw4.out (Nat.le_refl w.heap.size) OP x1 0 NN 4
    change bodyPost _ _ _ _ _ (setInst _ w.heap.size OP x1 0 NN 4)
    generalize setInst _ w.heap.size OP x1 0 NN 4 = WX at *
    obtain ⟨y0, y1, y2, y3, y4, _⟩ := hset
    refine bodyPost_ret (by simp [results, Tryd.results12, go_sem, y0, y1, y2, y3, y4]; try rfl) rfl ?_
    exact ⟨by rw [hVH.out], hbw4⟩
  · rw [if_neg hc0] at hVH
    have e1 : (C == 0) = false := by simpa using hc0
    have e2 : (C != 0) = true := by simpa using hc0
    clear hc0
    go_enter Tryd.func12, Tryd.ntmps12
    go_wp2_with (first
      | (go_at_call 25; (with_reducible refine (hFiH.out _).mono ?_); rintro e w1 ⟨rfl, hb1⟩; replace hb1 := Hid.intro hb1)
      | (go_at_call 26; (with_reducible refine (hSiH.out _).mono ?_); rintro e w2 ⟨rfl, hb2⟩; replace hb2 := Hid.intro hb2)
      | (go_at_call 27; (with_reducible refine (hShH.out _).mono ?_); rintro e w3 ⟨rfl, hb3⟩; have hR := Hid.intro (rready_of hTH.out hsubH.out hbw hb1.out hb2.out hb3); clear hb3; have hneH : Hid (b ≠ w2.heap.size) := (by show _ ≠ _; have := hR.out.bw; have := hR.out.h.le; omega); have hne := hneH.out; obtain ⟨i0, i1, i2, i3, i4, _⟩ := hR.out.i; have ff := hR.out.f; have c1 := lies_cell hR.out.l 1 x1 rfl; have c2 := lies_cell hR.out.l 2 x2 rfl; have c3 := lies_cell hR.out.l 3 x3 rfl; have c4 := lies_cell hR.out.l 4 x4 rfl; have c5 := lies_cell hR.out.l 5 x5 rfl)
      | (go_at_call 28; (try rw [hMH.out]); (with_reducible refine (hNu.out _ (hR.out.l.set _ 1 _ (fun b' o' h => by cases h; exact hneH.out))).mono ?_); rintro e wq ⟨rfl, rfl⟩)
      | (go_at_call 29; (with_reducible refine (hCk.out _).mono ?_); rintro e w4 ⟨rfl, hb4⟩; have hI4 := ((hR.out.i.setA x1).setN NN).below hb4 ((hR.out.i.setA x1).setN NN).lt; obtain ⟨j0, j1, j2, j3, j4, _⟩ := hI4; have hz4 := Hid.intro (((hR.out.h.set 1 _).set 3 _).z.below hb4 ((hR.out.h.set 1 _).set 3 _).z.lt); obtain ⟨z0, z1, z2, z3, z4, zf⟩ := hz4.out.cells; have hw4 := Hid.intro (chain2 ((hR.out.h.set 1 _).set 3 _).b hb4); clear hb4))
    have hset := hz4.out.set 0 0 0 0 0
    have hbw4 := below_setInst hw4.out (Nat.le_refl w.heap.size) 0 0 0 0 0
    change bodyPost _ _ _ _ _ (setInst _ w.heap.size 0 0 0 0 0)
    generalize setInst _ w.heap.size 0 0 0 0 0 = WX at *
    obtain ⟨y0, y1, y2, y3, y4, _⟩ := hset
    refine bodyPost_ret (by simp [results, Tryd.results12, go_sem, y0, y1, y2, y3, y4]; try rfl) rfl ?_
    exact ⟨by rw [hVH.out], hbw4⟩
end Go.Proofs.YthboapfbgdcdoaaDoor
