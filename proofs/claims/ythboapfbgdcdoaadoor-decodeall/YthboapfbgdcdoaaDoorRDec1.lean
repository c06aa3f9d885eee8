/- The document's Decode, by shape. -/
import Derived.Test.YthboapfbgdcdoaaDoorRFind
namespace Go.Proofs.YthboapfbgdcdoaaDoor
open Go.ChangeShapes Go.WideShapes Go.ChangeAt Go.RowKit
set_option linter.unusedVariables false
set_option maxRecDepth 100000

/-- what stands when the shape is known -/
structure RReady (w W : World) (g : Nat) (OP F : Int) (b off : Nat) (ys : List Int) : Prop where
  i : InstAt W g OP 0 0 0 F
  h : Held w W g
  l : Lies W (some ⟨b, off, none⟩) ys
  f : ∀ j, W.frozen? ⟨g, j, none⟩ = false
  bw : b < w.heap.size

theorem rready_of {w w1 w2 w3 : World} {OP F : Int} {b off : Nat} {ys : List Int} (hT : Tab w) (hl : Lies w (some ⟨b, off, none⟩) ys) (hb : b < w.heap.size)
    (h1 : Below (w.alloc (.cells #[.int .i64 0, .int .i64 0, .int .i64 0, .int .i32 0, .int .i64 0] 26)).heap.size (w.alloc (.cells #[.int .i64 0, .int .i64 0, .int .i64 0, .int .i32 0, .int .i64 0] 26)) w1)
    (h2 : Below w1.heap.size w1 w2)
    (h3 : Below (w2.alloc (.cells #[.int .i64 OP, .int .i64 0, .int .i64 0, .int .i32 0, .int .i64 F] 26)).heap.size (w2.alloc (.cells #[.int .i64 OP, .int .i64 0, .int .i64 0, .int .i32 0, .int .i64 F] 26)) w3) :
    RReady w w3 w2.heap.size OP F b off ys := by
  have s1 := h1.size
  have s2 := h2.size
  have s3 := h3.size
  simp at s1 s3
  have hsz := hT.size
  have hC : Below w.heap.size w w3 := chain2 (chain2 (chain2 (chain2 (below_alloc w _) h1) h2) (below_alloc w2 _)) h3
  have hD := chain2 (chain2 (chain2 h1 h2) (below_alloc w2 (.cells #[.int .i64 OP, .int .i64 0, .int .i64 0, .int .i32 0, .int .i64 F] 26))) h3
  exact ⟨(inst_new w2 OP 0 0 0 F).below h3 (inst_new w2 OP 0 0 0 F).lt, ⟨(zblk_new w).below hD (by simp), hC, hT.below hC hsz, by omega, by omega, by omega⟩, hl.below hC, froz_below h3 (by simp) (froz_new w2 _ 26), hb⟩
theorem lies_cell {w : World} {b off : Nat} {ys : List Int} (h : Lies w (some ⟨b, off, none⟩) ys) (j : Nat) (x : Int) (hx : ys[j]? = some x) : w.cell? ⟨b, off + j, none⟩ = some (.int .u8 x) := by
  obtain ⟨hlt, he⟩ := List.getElem?_eq_some_iff.1 hx
  rcases h.2 with rfl | ⟨b', o', ha, hc⟩
  · simp at hlt
  · cases ha
    rw [hc j hlt, List.getD_eq_getElem?_getD, hx]
    rfl
theorem list1 {α : Type} {l : List α} (h : l.length = 1) : ∃ a, l = [a] := by
  match l, h with
  | [a], _ => exact ⟨a, rfl⟩
theorem list2 {α : Type} {l : List α} (h : l.length = 2) : ∃ a b, l = [a, b] := by
  match l, h with
  | [a, b], _ => exact ⟨a, b, rfl⟩
theorem list4 {α : Type} {l : List α} (h : l.length = 4) : ∃ a b c d, l = [a, b, c, d] := by
  match l, h with
  | [a, b, c, d], _ => exact ⟨a, b, c, d, rfl⟩

set_option maxHeartbeats 4000000 in
theorem rdec_1_0 (b off cap m k : Nat) (zs : List Int) (OP c : Int) (w : World) (V : Value) (hm : m = zs.length) (hT : Tab w) (hl : Lies w (some ⟨b, off, none⟩) zs) (hbw : b < w.heap.size) (hcap : m ≤ cap) (hml : m ≤ 140737488355328) (hk : (k : Int) + 1 ≤ m) (hc : c = zs.getD k 0) (hop : ¬ (OP = 0))
    (hFi : ∀ W, Calls Tryd.prog 25 #[.int .u8 c] W fun e w' => e = .returned (.tuple #[.int .i64 OP, .int .i64 0]) ∧ Below W.heap.size W w')
    (hSi : ∀ W, Calls Tryd.prog 26 #[.int .i64 OP, .int .i64 0] W fun e w' => e = .returned (.int .i64 1) ∧ Below W.heap.size W w')
    (hSh : ∀ W, Calls Tryd.prog 27 #[.int .i64 OP] W fun e w' => e = .returned (.int .i64 1) ∧ Below W.heap.size W w')
    (hV : V = endV OP (fA 1 ((zs.drop (k + 1)).take 0)) (fB 1 ((zs.drop (k + 1)).take 0)) (fN 1 0 ((zs.drop (k + 1)).take 0)) 0 1) :
    Calls Tryd.prog 12 #[.slice (some ⟨b, off, none⟩) m cap, .int .i64 (k : Int)] w fun e w' => e = .returned V ∧ Below w.heap.size w w' := by
  have hys : (zs.drop k).take 1 = c :: (zs.drop (k + 1)).take 0 := by
    rw [List.drop_eq_getElem_cons (by omega), List.take_succ_cons, hc, List.getD_eq_getElem?_getD, List.getElem?_eq_getElem (by omega)]
    rfl
  have hsub := lies_sub hl k 1
  rw [hys] at hsub
  have hl3 : ((zs.drop (k + 1)).take 0).length = 0 := by simp
  have hby := hsub.1
  generalize (zs.drop (k + 1)).take 0 = rs at *
  obtain rfl : rs = [] := List.length_eq_zero_iff.1 hl3
  have q0 := lies_cell hsub 0 c rfl
  rw [Nat.add_zero] at q0
  have qa := fun o => ((below_alloc w o).cell (p := ⟨b, off + k, none⟩) hbw).trans q0
  have hV2 : V = endV OP 0 0 0 0 1 := by
    rw [hV]
    first | rfl | (simp [fA, fB, fN, leN]; done)
  have hnbH : Hid (-2147483648 ≤ (0 : Int) ∧ (0 : Int) ≤ 2147483647) := (show _ ∧ _ by omega)
  have hCk := Hid.intro (fun W => refCheck_any OP 0 0 0 0 W hnbH.out)
  have hVH := Hid.intro hV2
  unfold endV at hVH
  obtain ⟨C, hC⟩ : ∃ C, C = checkN OP 0 0 0 0 := ⟨_, rfl⟩
  rw [← hC] at hCk hVH
  have hz0 := Hid.intro (zblk_new w)
  have hTH := Hid.intro hT
  have hsubH := Hid.intro hsub
  have hFiH := Hid.intro hFi
  have hSiH := Hid.intro hSi
  have hShH := Hid.intro hSh
  have e0 : ((m : Int) - k < 1) = False := by simp; omega
  have ek : ((k : Int) == (m : Int)) = false := by simp; omega
  have hMH : Hid (k + 1 - k = 1) := (show _ = _ by omega)
  have eop : (OP == 0) = false := by simpa using hop
  have hk1 : (k : Int) < (m : Int) := by omega
  have hk2 : ¬ ((k : Int) < 0) := by omega
  have hk3 : ¬ ((k : Int) > (m : Int)) := by omega
  clear hT hsub hFi hSi hSh hV hV2 hm hl hc hys hl3 hby hC q0
  by_cases hc0 : C = 0
  · subst hc0
    rw [if_pos rfl] at hVH
    go_enter Tryd.func12, Tryd.ntmps12
    go_wp2_with (first
      | (go_at_call 25; (with_reducible refine (hFiH.out _).mono ?_); rintro e w1 ⟨rfl, hb1⟩; replace hb1 := Hid.intro hb1)
      | (go_at_call 26; (with_reducible refine (hSiH.out _).mono ?_); rintro e w2 ⟨rfl, hb2⟩; replace hb2 := Hid.intro hb2)
      | (go_at_call 27; (with_reducible refine (hShH.out _).mono ?_); rintro e w3 ⟨rfl, hb3⟩; have hR := Hid.intro (rready_of hTH.out hsubH.out hbw hb1.out hb2.out hb3); clear hb3; have hneH : Hid (b ≠ w2.heap.size) := (by show _ ≠ _; have := hR.out.bw; have := hR.out.h.le; omega); have hne := hneH.out; obtain ⟨i0, i1, i2, i3, i4, _⟩ := hR.out.i; have ff := hR.out.f)
      | (go_at_call 29; (with_reducible refine (hCk.out _).mono ?_); rintro e w4 ⟨rfl, hb4⟩; have hI4 := hR.out.i.below hb4 hR.out.i.lt; obtain ⟨j0, j1, j2, j3, j4, _⟩ := hI4; have hz4 := Hid.intro (hR.out.h.z.below hb4 hR.out.h.z.lt); obtain ⟨z0, z1, z2, z3, z4, zf⟩ := hz4.out.cells; have hw4 := Hid.intro (chain2 hR.out.h.b hb4); clear hb4))
    have hset := hz4.out.set OP 0 0 0 0
    have hbw4 := below_setInst hw4.out (Nat.le_refl w.heap.size) OP 0 0 0 0
    change bodyPost _ _ _ _ _ (setInst _ w.heap.size OP 0 0 0 0)
    generalize setInst _ w.heap.size OP 0 0 0 0 = WX at *
    obtain ⟨y0, y1, y2, y3, y4, _⟩ := hset
    refine bodyPost_ret (by simp [results, Tryd.results12, go_sem, y0, y1, y2, y3, y4]; try rfl) rfl ?_
    exact ⟨by rw [hVH.out], hbw4⟩
  · rw [if_neg hc0] at hVH
    have e1 : (C == 0) = false := by simpa using hc0
    have e2 : (C != 0) = true := by simpa using hc0
    clear hc0
    go_enter Tryd.func12, Tryd.ntmps12
    go_wp2_with (first
      | (go_at_call 25; (with_reducible refine (hFiH.out _).mono ?_); rintro e w1 ⟨rfl, hb1⟩; replace hb1 := Hid.intro hb1)
      | (go_at_call 26; (with_reducible refine (hSiH.out _).mono ?_); rintro e w2 ⟨rfl, hb2⟩; replace hb2 := Hid.intro hb2)
      | (go_at_call 27; (with_reducible refine (hShH.out _).mono ?_); rintro e w3 ⟨rfl, hb3⟩; have hR := Hid.intro (rready_of hTH.out hsubH.out hbw hb1.out hb2.out hb3); clear hb3; have hneH : Hid (b ≠ w2.heap.size) := (by show _ ≠ _; have := hR.out.bw; have := hR.out.h.le; omega); have hne := hneH.out; obtain ⟨i0, i1, i2, i3, i4, _⟩ := hR.out.i; have ff := hR.out.f)
      | (go_at_call 29; (with_reducible refine (hCk.out _).mono ?_); rintro e w4 ⟨rfl, hb4⟩; have hI4 := hR.out.i.below hb4 hR.out.i.lt; obtain ⟨j0, j1, j2, j3, j4, _⟩ := hI4; have hz4 := Hid.intro (hR.out.h.z.below hb4 hR.out.h.z.lt); obtain ⟨z0, z1, z2, z3, z4, zf⟩ := hz4.out.cells; have hw4 := Hid.intro (chain2 hR.out.h.b hb4); clear hb4))
    have hset := hz4.out.set 0 0 0 0 0
    have hbw4 := below_setInst hw4.out (Nat.le_refl w.heap.size) 0 0 0 0 0
    change bodyPost _ _ _ _ _ (setInst _ w.heap.size 0 0 0 0 0)
    generalize setInst _ w.heap.size 0 0 0 0 0 = WX at *
    obtain ⟨y0, y1, y2, y3, y4, _⟩ := hset
    refine bodyPost_ret (by simp [results, Tryd.results12, go_sem, y0, y1, y2, y3, y4]; try rfl) rfl ?_
    exact ⟨by rw [hVH.out], hbw4⟩

set_option maxHeartbeats 4000000 in
theorem rdec_2_0 (b off cap m k : Nat) (zs : List Int) (OP c : Int) (w : World) (V : Value) (hm : m = zs.length) (hT : Tab w) (hl : Lies w (some ⟨b, off, none⟩) zs) (hbw : b < w.heap.size) (hcap : m ≤ cap) (hml : m ≤ 140737488355328) (hk : (k : Int) + 2 ≤ m) (hc : c = zs.getD k 0) (hop : ¬ (OP = 0))
    (hFi : ∀ W, Calls Tryd.prog 25 #[.int .u8 c] W fun e w' => e = .returned (.tuple #[.int .i64 OP, .int .i64 0]) ∧ Below W.heap.size W w')
    (hSi : ∀ W, Calls Tryd.prog 26 #[.int .i64 OP, .int .i64 0] W fun e w' => e = .returned (.int .i64 2) ∧ Below W.heap.size W w')
    (hSh : ∀ W, Calls Tryd.prog 27 #[.int .i64 OP] W fun e w' => e = .returned (.int .i64 2) ∧ Below W.heap.size W w')
    (hV : V = endV OP (fA 2 ((zs.drop (k + 1)).take 1)) (fB 2 ((zs.drop (k + 1)).take 1)) (fN 2 0 ((zs.drop (k + 1)).take 1)) 0 2) :
    Calls Tryd.prog 12 #[.slice (some ⟨b, off, none⟩) m cap, .int .i64 (k : Int)] w fun e w' => e = .returned V ∧ Below w.heap.size w w' := by
  have hys : (zs.drop k).take 2 = c :: (zs.drop (k + 1)).take 1 := by
    rw [List.drop_eq_getElem_cons (by omega), List.take_succ_cons, hc, List.getD_eq_getElem?_getD, List.getElem?_eq_getElem (by omega)]
    rfl
  have hsub := lies_sub hl k 2
  rw [hys] at hsub
  have hl3 : ((zs.drop (k + 1)).take 1).length = 1 := by simp; omega
  have hby := hsub.1
  generalize (zs.drop (k + 1)).take 1 = rs at *
  obtain ⟨x1, rfl⟩ := list1 hl3
  have hbx1 := hby x1 (by simp)
  have q0 := lies_cell hsub 0 c rfl
  rw [Nat.add_zero] at q0
  have qa := fun o => ((below_alloc w o).cell (p := ⟨b, off + k, none⟩) hbw).trans q0
  have hV2 : V = endV OP x1 0 0 0 2 := by
    rw [hV]
    first | rfl | (simp [fA, fB, fN, leN]; done)
  have hnbH : Hid (-2147483648 ≤ (0 : Int) ∧ (0 : Int) ≤ 2147483647) := (show _ ∧ _ by omega)
  have ex1 : IntKind.i64.wrap x1 = x1 := by rw [IntKind.wrap_i64]; omega
  have rx1 : x1 % 256 = x1 := by omega
  have hCk := Hid.intro (fun W => refCheck_any OP x1 0 0 0 W hnbH.out)
  have hVH := Hid.intro hV2
  unfold endV at hVH
  obtain ⟨C, hC⟩ : ∃ C, C = checkN OP x1 0 0 0 := ⟨_, rfl⟩
  rw [← hC] at hCk hVH
  have hz0 := Hid.intro (zblk_new w)
  have hTH := Hid.intro hT
  have hsubH := Hid.intro hsub
  have hFiH := Hid.intro hFi
  have hSiH := Hid.intro hSi
  have hShH := Hid.intro hSh
  have e0 : ((m : Int) - k < 2) = False := by simp; omega
  have ek : ((k : Int) == (m : Int)) = false := by simp; omega
  have hMH : Hid (k + 2 - k = 2) := (show _ = _ by omega)
  have eop : (OP == 0) = false := by simpa using hop
  have hk1 : (k : Int) < (m : Int) := by omega
  have hk2 : ¬ ((k : Int) < 0) := by omega
  have hk3 : ¬ ((k : Int) > (m : Int)) := by omega
  clear hT hsub hFi hSi hSh hV hV2 hm hl hc hys hl3 hby hC q0
  by_cases hc0 : C = 0
  · subst hc0
    rw [if_pos rfl] at hVH
    go_enter Tryd.func12, Tryd.ntmps12
    go_wp2_with (first
      | (go_at_call 25; (with_reducible refine (hFiH.out _).mono ?_); rintro e w1 ⟨rfl, hb1⟩; replace hb1 := Hid.intro hb1)
      | (go_at_call 26; (with_reducible refine (hSiH.out _).mono ?_); rintro e w2 ⟨rfl, hb2⟩; replace hb2 := Hid.intro hb2)
      | (go_at_call 27; (with_reducible refine (hShH.out _).mono ?_); rintro e w3 ⟨rfl, hb3⟩; have hR := Hid.intro (rready_of hTH.out hsubH.out hbw hb1.out hb2.out hb3); clear hb3; have hneH : Hid (b ≠ w2.heap.size) := (by show _ ≠ _; have := hR.out.bw; have := hR.out.h.le; omega); have hne := hneH.out; obtain ⟨i0, i1, i2, i3, i4, _⟩ := hR.out.i; have ff := hR.out.f; have c1 := lies_cell hR.out.l 1 x1 rfl)
      | (go_at_call 29; (with_reducible refine (hCk.out _).mono ?_); rintro e w4 ⟨rfl, hb4⟩; have hI4 := (hR.out.i.setA x1).below hb4 (hR.out.i.setA x1).lt; obtain ⟨j0, j1, j2, j3, j4, _⟩ := hI4; have hz4 := Hid.intro ((hR.out.h.set 1 _).z.below hb4 (hR.out.h.set 1 _).z.lt); obtain ⟨z0, z1, z2, z3, z4, zf⟩ := hz4.out.cells; have hw4 := Hid.intro (chain2 (hR.out.h.set 1 _).b hb4); clear hb4))
    have hset := hz4.out.set OP x1 0 0 0
    have hbw4 := below_setInst hw4.out (Nat.le_refl w.heap.size) OP x1 0 0 0
    change bodyPost _ _ _ _ _ (setInst _ w.heap.size OP x1 0 0 0)
    generalize setInst _ w.heap.size OP x1 0 0 0 = WX at *
    obtain ⟨y0, y1, y2, y3, y4, _⟩ := hset
    refine bodyPost_ret (by simp [results, Tryd.results12, go_sem, y0, y1, y2, y3, y4]; try rfl) rfl ?_
    exact ⟨by rw [hVH.out], hbw4⟩
  · rw [if_neg hc0] at hVH
    have e1 : (C == 0) = false := by simpa using hc0
    have e2 : (C != 0) = true := by simpa using hc0
    clear hc0
    go_enter Tryd.func12, Tryd.ntmps12
    go_wp2_with (first
      | (go_at_call 25; (with_reducible refine (hFiH.out _).mono ?_); rintro e w1 ⟨rfl, hb1⟩; replace hb1 := Hid.intro hb1)
      | (go_at_call 26; (with_reducible refine (hSiH.out _).mono ?_); rintro e w2 ⟨rfl, hb2⟩; replace hb2 := Hid.intro hb2)
      | (go_at_call 27; (with_reducible refine (hShH.out _).mono ?_); rintro e w3 ⟨rfl, hb3⟩; have hR := Hid.intro (rready_of hTH.out hsubH.out hbw hb1.out hb2.out hb3); clear hb3; have hneH : Hid (b ≠ w2.heap.size) := (by show _ ≠ _; have := hR.out.bw; have := hR.out.h.le; omega); have hne := hneH.out; obtain ⟨i0, i1, i2, i3, i4, _⟩ := hR.out.i; have ff := hR.out.f; have c1 := lies_cell hR.out.l 1 x1 rfl)
      | (go_at_call 29; (with_reducible refine (hCk.out _).mono ?_); rintro e w4 ⟨rfl, hb4⟩; have hI4 := (hR.out.i.setA x1).below hb4 (hR.out.i.setA x1).lt; obtain ⟨j0, j1, j2, j3, j4, _⟩ := hI4; have hz4 := Hid.intro ((hR.out.h.set 1 _).z.below hb4 (hR.out.h.set 1 _).z.lt); obtain ⟨z0, z1, z2, z3, z4, zf⟩ := hz4.out.cells; have hw4 := Hid.intro (chain2 (hR.out.h.set 1 _).b hb4); clear hb4))
    have hset := hz4.out.set 0 0 0 0 0
    have hbw4 := below_setInst hw4.out (Nat.le_refl w.heap.size) 0 0 0 0 0
    change bodyPost _ _ _ _ _ (setInst _ w.heap.size 0 0 0 0 0)
    generalize setInst _ w.heap.size 0 0 0 0 0 = WX at *
    obtain ⟨y0, y1, y2, y3, y4, _⟩ := hset
    refine bodyPost_ret (by simp [results, Tryd.results12, go_sem, y0, y1, y2, y3, y4]; try rfl) rfl ?_
    exact ⟨by rw [hVH.out], hbw4⟩

set_option maxHeartbeats 4000000 in
theorem rdec_4_0 (b off cap m k : Nat) (zs : List Int) (OP c : Int) (w : World) (V : Value) (hm : m = zs.length) (hT : Tab w) (hl : Lies w (some ⟨b, off, none⟩) zs) (hbw : b < w.heap.size) (hcap : m ≤ cap) (hml : m ≤ 140737488355328) (hk : (k : Int) + 2 ≤ m) (hc : c = zs.getD k 0) (hop : ¬ (OP = 0))
    (hFi : ∀ W, Calls Tryd.prog 25 #[.int .u8 c] W fun e w' => e = .returned (.tuple #[.int .i64 OP, .int .i64 0]) ∧ Below W.heap.size W w')
    (hSi : ∀ W, Calls Tryd.prog 26 #[.int .i64 OP, .int .i64 0] W fun e w' => e = .returned (.int .i64 2) ∧ Below W.heap.size W w')
    (hSh : ∀ W, Calls Tryd.prog 27 #[.int .i64 OP] W fun e w' => e = .returned (.int .i64 4) ∧ Below W.heap.size W w')
    (hV : V = endV OP (fA 4 ((zs.drop (k + 1)).take 1)) (fB 4 ((zs.drop (k + 1)).take 1)) (fN 4 0 ((zs.drop (k + 1)).take 1)) 0 2) :
    Calls Tryd.prog 12 #[.slice (some ⟨b, off, none⟩) m cap, .int .i64 (k : Int)] w fun e w' => e = .returned V ∧ Below w.heap.size w w' := by
  have hys : (zs.drop k).take 2 = c :: (zs.drop (k + 1)).take 1 := by
    rw [List.drop_eq_getElem_cons (by omega), List.take_succ_cons, hc, List.getD_eq_getElem?_getD, List.getElem?_eq_getElem (by omega)]
    rfl
  have hsub := lies_sub hl k 2
  rw [hys] at hsub
  have hl3 : ((zs.drop (k + 1)).take 1).length = 1 := by simp; omega
  have hby := hsub.1
  generalize (zs.drop (k + 1)).take 1 = rs at *
  obtain ⟨x1, rfl⟩ := list1 hl3
  have hbx1 := hby x1 (by simp)
  have q0 := lies_cell hsub 0 c rfl
  rw [Nat.add_zero] at q0
  have qa := fun o => ((below_alloc w o).cell (p := ⟨b, off + k, none⟩) hbw).trans q0
  have hV2 : V = endV OP (x1 / 16) (x1 % 16) 0 0 2 := by
    rw [hV]
    first | rfl | (simp [fA, fB, fN, leN]; done)
  have hnbH : Hid (-2147483648 ≤ (0 : Int) ∧ (0 : Int) ≤ 2147483647) := (show _ ∧ _ by omega)
  have ex1 : IntKind.i64.wrap x1 = x1 := by rw [IntKind.wrap_i64]; omega
  have rx1 : x1 % 256 = x1 := by omega
  have a15 := and15 x1 hbx1.1 hbx1.2
  have s16 : x1 / 2 ^ 4 = x1 / 16 := by simp
  have t16 : 0 ≤ x1 / 16 ∧ x1 / 16 ≤ 15 := by omega
  have u16 : 0 ≤ x1 % 16 ∧ x1 % 16 ≤ 15 := by omega
  have hCk := Hid.intro (fun W => refCheck_any OP (x1 / 16) (x1 % 16) 0 0 W hnbH.out)
  have hVH := Hid.intro hV2
  unfold endV at hVH
  obtain ⟨C, hC⟩ : ∃ C, C = checkN OP (x1 / 16) (x1 % 16) 0 0 := ⟨_, rfl⟩
  rw [← hC] at hCk hVH
  have hz0 := Hid.intro (zblk_new w)
  have hTH := Hid.intro hT
  have hsubH := Hid.intro hsub
  have hFiH := Hid.intro hFi
  have hSiH := Hid.intro hSi
  have hShH := Hid.intro hSh
  have e0 : ((m : Int) - k < 2) = False := by simp; omega
  have ek : ((k : Int) == (m : Int)) = false := by simp; omega
  have hMH : Hid (k + 2 - k = 2) := (show _ = _ by omega)
  have eop : (OP == 0) = false := by simpa using hop
  have hk1 : (k : Int) < (m : Int) := by omega
  have hk2 : ¬ ((k : Int) < 0) := by omega
  have hk3 : ¬ ((k : Int) > (m : Int)) := by omega
  clear hT hsub hFi hSi hSh hV hV2 hm hl hc hys hl3 hby hC q0
  by_cases hc0 : C = 0
  · subst hc0
    rw [if_pos rfl] at hVH
    go_enter Tryd.func12, Tryd.ntmps12
    go_wp2_with (first
      | (go_at_call 25; (with_reducible refine (hFiH.out _).mono ?_); rintro e w1 ⟨rfl, hb1⟩; replace hb1 := Hid.intro hb1)
      | (go_at_call 26; (with_reducible refine (hSiH.out _).mono ?_); rintro e w2 ⟨rfl, hb2⟩; replace hb2 := Hid.intro hb2)
      | (go_at_call 27; (with_reducible refine (hShH.out _).mono ?_); rintro e w3 ⟨rfl, hb3⟩; have hR := Hid.intro (rready_of hTH.out hsubH.out hbw hb1.out hb2.out hb3); clear hb3; have hneH : Hid (b ≠ w2.heap.size) := (by show _ ≠ _; have := hR.out.bw; have := hR.out.h.le; omega); have hne := hneH.out; obtain ⟨i0, i1, i2, i3, i4, _⟩ := hR.out.i; have ff := hR.out.f; have c1 := lies_cell hR.out.l 1 x1 rfl)
      | (go_at_call 29; (with_reducible refine (hCk.out _).mono ?_); rintro e w4 ⟨rfl, hb4⟩; have hI4 := ((hR.out.i.setA (x1 / 16)).setB (x1 % 16)).below hb4 ((hR.out.i.setA (x1 / 16)).setB (x1 % 16)).lt; obtain ⟨j0, j1, j2, j3, j4, _⟩ := hI4; have hz4 := Hid.intro (((hR.out.h.set 1 _).set 2 _).z.below hb4 ((hR.out.h.set 1 _).set 2 _).z.lt); obtain ⟨z0, z1, z2, z3, z4, zf⟩ := hz4.out.cells; have hw4 := Hid.intro (chain2 ((hR.out.h.set 1 _).set 2 _).b hb4); clear hb4))
    have hset := hz4.out.set OP (x1 / 16) (x1 % 16) 0 0
    have hbw4 := below_setInst hw4.out (Nat.le_refl w.heap.size) OP (x1 / 16) (x1 % 16) 0 0
    change bodyPost _ _ _ _ _ (setInst _ w.heap.size OP (x1 / 16) (x1 % 16) 0 0)
    generalize setInst _ w.heap.size OP (x1 / 16) (x1 % 16) 0 0 = WX at *
    obtain ⟨y0, y1, y2, y3, y4, _⟩ := hset
    refine bodyPost_ret (by simp [results, Tryd.results12, go_sem, y0, y1, y2, y3, y4]; try rfl) rfl ?_
    exact ⟨by rw [hVH.out], hbw4⟩
  · rw [if_neg hc0] at hVH
    have e1 : (C == 0) = false := by simpa using hc0
    have e2 : (C != 0) = true := by simpa using hc0
    clear hc0
    go_enter Tryd.func12, Tryd.ntmps12
    go_wp2_with (first
      | (go_at_call 25; (with_reducible refine (hFiH.out _).mono ?_); rintro e w1 ⟨rfl, hb1⟩; replace hb1 := Hid.intro hb1)
      | (go_at_call 26; (with_reducible refine (hSiH.out _).mono ?_); rintro e w2 ⟨rfl, hb2⟩; replace hb2 := Hid.intro hb2)
      | (go_at_call 27; (with_reducible refine (hShH.out _).mono ?_); rintro e w3 ⟨rfl, hb3⟩; have hR := Hid.intro (rready_of hTH.out hsubH.out hbw hb1.out hb2.out hb3); clear hb3; have hneH : Hid (b ≠ w2.heap.size) := (by show _ ≠ _; have := hR.out.bw; have := hR.out.h.le; omega); have hne := hneH.out; obtain ⟨i0, i1, i2, i3, i4, _⟩ := hR.out.i; have ff := hR.out.f; have c1 := lies_cell hR.out.l 1 x1 rfl)
      | (go_at_call 29; (with_reducible refine (hCk.out _).mono ?_); rintro e w4 ⟨rfl, hb4⟩; have hI4 := ((hR.out.i.setA (x1 / 16)).setB (x1 % 16)).below hb4 ((hR.out.i.setA (x1 / 16)).setB (x1 % 16)).lt; obtain ⟨j0, j1, j2, j3, j4, _⟩ := hI4; have hz4 := Hid.intro (((hR.out.h.set 1 _).set 2 _).z.below hb4 ((hR.out.h.set 1 _).set 2 _).z.lt); obtain ⟨z0, z1, z2, z3, z4, zf⟩ := hz4.out.cells; have hw4 := Hid.intro (chain2 ((hR.out.h.set 1 _).set 2 _).b hb4); clear hb4))
    have hset := hz4.out.set 0 0 0 0 0
    have hbw4 := below_setInst hw4.out (Nat.le_refl w.heap.size) 0 0 0 0 0
    change bodyPost _ _ _ _ _ (setInst _ w.heap.size 0 0 0 0 0)
    generalize setInst _ w.heap.size 0 0 0 0 0 = WX at *
    obtain ⟨y0, y1, y2, y3, y4, _⟩ := hset
    refine bodyPost_ret (by simp [results, Tryd.results12, go_sem, y0, y1, y2, y3, y4]; try rfl) rfl ?_
    exact ⟨by rw [hVH.out], hbw4⟩

set_option maxHeartbeats 4000000 in
theorem rdec_7_0 (b off cap m k : Nat) (zs : List Int) (OP c : Int) (w : World) (V : Value) (hm : m = zs.length) (hT : Tab w) (hl : Lies w (some ⟨b, off, none⟩) zs) (hbw : b < w.heap.size) (hcap : m ≤ cap) (hml : m ≤ 140737488355328) (hk : (k : Int) + 3 ≤ m) (hc : c = zs.getD k 0) (hop : ¬ (OP = 0))
    (hFi : ∀ W, Calls Tryd.prog 25 #[.int .u8 c] W fun e w' => e = .returned (.tuple #[.int .i64 OP, .int .i64 0]) ∧ Below W.heap.size W w')
    (hSi : ∀ W, Calls Tryd.prog 26 #[.int .i64 OP, .int .i64 0] W fun e w' => e = .returned (.int .i64 3) ∧ Below W.heap.size W w')
    (hSh : ∀ W, Calls Tryd.prog 27 #[.int .i64 OP] W fun e w' => e = .returned (.int .i64 7) ∧ Below W.heap.size W w')
    (hV : V = endV OP (fA 7 ((zs.drop (k + 1)).take 2)) (fB 7 ((zs.drop (k + 1)).take 2)) (fN 7 0 ((zs.drop (k + 1)).take 2)) 0 3) :
    Calls Tryd.prog 12 #[.slice (some ⟨b, off, none⟩) m cap, .int .i64 (k : Int)] w fun e w' => e = .returned V ∧ Below w.heap.size w w' := by
  have hys : (zs.drop k).take 3 = c :: (zs.drop (k + 1)).take 2 := by
    rw [List.drop_eq_getElem_cons (by omega), List.take_succ_cons, hc, List.getD_eq_getElem?_getD, List.getElem?_eq_getElem (by omega)]
    rfl
  have hsub := lies_sub hl k 3
  rw [hys] at hsub
  have hl3 : ((zs.drop (k + 1)).take 2).length = 2 := by simp; omega
  have hby := hsub.1
  generalize (zs.drop (k + 1)).take 2 = rs at *
  obtain ⟨x1, x2, rfl⟩ := list2 hl3
  have hbx1 := hby x1 (by simp)
  have hbx2 := hby x2 (by simp)
  have q0 := lies_cell hsub 0 c rfl
  rw [Nat.add_zero] at q0
  have qa := fun o => ((below_alloc w o).cell (p := ⟨b, off + k, none⟩) hbw).trans q0
  have hV2 : V = endV OP x1 (x2 / 16) (x2 % 16) 0 3 := by
    rw [hV]
    first | rfl | (simp [fA, fB, fN, leN]; done)
  have hnbH : Hid (-2147483648 ≤ ((x2 % 16) : Int) ∧ ((x2 % 16) : Int) ≤ 2147483647) := (show _ ∧ _ by omega)
  have ex1 : IntKind.i64.wrap x1 = x1 := by rw [IntKind.wrap_i64]; omega
  have rx1 : x1 % 256 = x1 := by omega
  have ex2 : IntKind.i64.wrap x2 = x2 := by rw [IntKind.wrap_i64]; omega
  have rx2 : x2 % 256 = x2 := by omega
  have a15 := and15 x2 hbx2.1 hbx2.2
  have s16 : x2 / 2 ^ 4 = x2 / 16 := by simp
  have t16 : 0 ≤ x2 / 16 ∧ x2 / 16 ≤ 15 := by omega
  have u16 : 0 ≤ x2 % 16 ∧ x2 % 16 ≤ 15 := by omega
  have hCk := Hid.intro (fun W => refCheck_any OP x1 (x2 / 16) (x2 % 16) 0 W hnbH.out)
  have hVH := Hid.intro hV2
  unfold endV at hVH
  obtain ⟨C, hC⟩ : ∃ C, C = checkN OP x1 (x2 / 16) (x2 % 16) 0 := ⟨_, rfl⟩
  rw [← hC] at hCk hVH
  have hz0 := Hid.intro (zblk_new w)
  have hTH := Hid.intro hT
  have hsubH := Hid.intro hsub
  have hFiH := Hid.intro hFi
  have hSiH := Hid.intro hSi
  have hShH := Hid.intro hSh
  have e0 : ((m : Int) - k < 3) = False := by simp; omega
  have ek : ((k : Int) == (m : Int)) = false := by simp; omega
  have hMH : Hid (k + 3 - k = 3) := (show _ = _ by omega)
  have eop : (OP == 0) = false := by simpa using hop
  have hk1 : (k : Int) < (m : Int) := by omega
  have hk2 : ¬ ((k : Int) < 0) := by omega
  have hk3 : ¬ ((k : Int) > (m : Int)) := by omega
  clear hT hsub hFi hSi hSh hV hV2 hm hl hc hys hl3 hby hC q0
  by_cases hc0 : C = 0
  · subst hc0
    rw [if_pos rfl] at hVH
    go_enter Tryd.func12, Tryd.ntmps12
    go_wp2_with (first
      | (go_at_call 25; (with_reducible refine (hFiH.out _).mono ?_); rintro e w1 ⟨rfl, hb1⟩; replace hb1 := Hid.intro hb1)
      | (go_at_call 26; (with_reducible refine (hSiH.out _).mono ?_); rintro e w2 ⟨rfl, hb2⟩; replace hb2 := Hid.intro hb2)
      | (go_at_call 27; (with_reducible refine (hShH.out _).mono ?_); rintro e w3 ⟨rfl, hb3⟩; have hR := Hid.intro (rready_of hTH.out hsubH.out hbw hb1.out hb2.out hb3); clear hb3; have hneH : Hid (b ≠ w2.heap.size) := (by show _ ≠ _; have := hR.out.bw; have := hR.out.h.le; omega); have hne := hneH.out; obtain ⟨i0, i1, i2, i3, i4, _⟩ := hR.out.i; have ff := hR.out.f; have c1 := lies_cell hR.out.l 1 x1 rfl; have c2 := lies_cell hR.out.l 2 x2 rfl)
      | (go_at_call 29; (with_reducible refine (hCk.out _).mono ?_); rintro e w4 ⟨rfl, hb4⟩; have hI4 := (((hR.out.i.setA x1).setB (x2 / 16)).setN (x2 % 16)).below hb4 (((hR.out.i.setA x1).setB (x2 / 16)).setN (x2 % 16)).lt; obtain ⟨j0, j1, j2, j3, j4, _⟩ := hI4; have hz4 := Hid.intro ((((hR.out.h.set 1 _).set 2 _).set 3 _).z.below hb4 (((hR.out.h.set 1 _).set 2 _).set 3 _).z.lt); obtain ⟨z0, z1, z2, z3, z4, zf⟩ := hz4.out.cells; have hw4 := Hid.intro (chain2 (((hR.out.h.set 1 _).set 2 _).set 3 _).b hb4); clear hb4))
    have hset := hz4.out.set OP x1 (x2 / 16) (x2 % 16) 0
    have hbw4 := below_setInst hw4.out (Nat.le_refl w.heap.size) OP x1 (x2 / 16) (x2 % 16) 0
    change bodyPost _ _ _ _ _ (setInst _ w.heap.size OP x1 (x2 / 16) (x2 % 16) 0)
    generalize setInst _ w.heap.size OP x1 (x2 / 16) (x2 % 16) 0 = WX at *
    obtain ⟨y0, y1, y2, y3, y4, _⟩ := hset
    refine bodyPost_ret (by simp [results, Tryd.results12, go_sem, y0, y1, y2, y3, y4]; try rfl) rfl ?_
    exact ⟨by rw [hVH.out], hbw4⟩
  · rw [if_neg hc0] at hVH
    have e1 : (C == 0) = false := by simpa using hc0
    have e2 : (C != 0) = true := by simpa using hc0
    clear hc0
    go_enter Tryd.func12, Tryd.ntmps12
    go_wp2_with (first
      | (go_at_call 25; (with_reducible refine (hFiH.out _).mono ?_); rintro e w1 ⟨rfl, hb1⟩; replace hb1 := Hid.intro hb1)
      | (go_at_call 26; (with_reducible refine (hSiH.out _).mono ?_); rintro e w2 ⟨rfl, hb2⟩; replace hb2 := Hid.intro hb2)
      | (go_at_call 27; (with_reducible refine (hShH.out _).mono ?_); rintro e w3 ⟨rfl, hb3⟩; have hR := Hid.intro (rready_of hTH.out hsubH.out hbw hb1.out hb2.out hb3); clear hb3; have hneH : Hid (b ≠ w2.heap.size) := (by show _ ≠ _; have := hR.out.bw; have := hR.out.h.le; omega); have hne := hneH.out; obtain ⟨i0, i1, i2, i3, i4, _⟩ := hR.out.i; have ff := hR.out.f; have c1 := lies_cell hR.out.l 1 x1 rfl; have c2 := lies_cell hR.out.l 2 x2 rfl)
      | (go_at_call 29; (with_reducible refine (hCk.out _).mono ?_); rintro e w4 ⟨rfl, hb4⟩; have hI4 := (((hR.out.i.setA x1).setB (x2 / 16)).setN (x2 % 16)).below hb4 (((hR.out.i.setA x1).setB (x2 / 16)).setN (x2 % 16)).lt; obtain ⟨j0, j1, j2, j3, j4, _⟩ := hI4; have hz4 := Hid.intro ((((hR.out.h.set 1 _).set 2 _).set 3 _).z.below hb4 (((hR.out.h.set 1 _).set 2 _).set 3 _).z.lt); obtain ⟨z0, z1, z2, z3, z4, zf⟩ := hz4.out.cells; have hw4 := Hid.intro (chain2 (((hR.out.h.set 1 _).set 2 _).set 3 _).b hb4); clear hb4))
    have hset := hz4.out.set 0 0 0 0 0
    have hbw4 := below_setInst hw4.out (Nat.le_refl w.heap.size) 0 0 0 0 0
    change bodyPost _ _ _ _ _ (setInst _ w.heap.size 0 0 0 0 0)
    generalize setInst _ w.heap.size 0 0 0 0 0 = WX at *
    obtain ⟨y0, y1, y2, y3, y4, _⟩ := hset
    refine bodyPost_ret (by simp [results, Tryd.results12, go_sem, y0, y1, y2, y3, y4]; try rfl) rfl ?_
    exact ⟨by rw [hVH.out], hbw4⟩

set_option maxHeartbeats 4000000 in
theorem rdec_8_0 (b off cap m k : Nat) (zs : List Int) (OP c : Int) (w : World) (V : Value) (hm : m = zs.length) (hT : Tab w) (hl : Lies w (some ⟨b, off, none⟩) zs) (hbw : b < w.heap.size) (hcap : m ≤ cap) (hml : m ≤ 140737488355328) (hk : (k : Int) + 3 ≤ m) (hc : c = zs.getD k 0) (hop : ¬ (OP = 0))
    (hFi : ∀ W, Calls Tryd.prog 25 #[.int .u8 c] W fun e w' => e = .returned (.tuple #[.int .i64 OP, .int .i64 0]) ∧ Below W.heap.size W w')
    (hSi : ∀ W, Calls Tryd.prog 26 #[.int .i64 OP, .int .i64 0] W fun e w' => e = .returned (.int .i64 3) ∧ Below W.heap.size W w')
    (hSh : ∀ W, Calls Tryd.prog 27 #[.int .i64 OP] W fun e w' => e = .returned (.int .i64 8) ∧ Below W.heap.size W w')
    (hV : V = endV OP (fA 8 ((zs.drop (k + 1)).take 2)) (fB 8 ((zs.drop (k + 1)).take 2)) (fN 8 0 ((zs.drop (k + 1)).take 2)) 0 3) :
    Calls Tryd.prog 12 #[.slice (some ⟨b, off, none⟩) m cap, .int .i64 (k : Int)] w fun e w' => e = .returned V ∧ Below w.heap.size w w' := by
  have hys : (zs.drop k).take 3 = c :: (zs.drop (k + 1)).take 2 := by
    rw [List.drop_eq_getElem_cons (by omega), List.take_succ_cons, hc, List.getD_eq_getElem?_getD, List.getElem?_eq_getElem (by omega)]
    rfl
  have hsub := lies_sub hl k 3
  rw [hys] at hsub
  have hl3 : ((zs.drop (k + 1)).take 2).length = 2 := by simp; omega
  have hby := hsub.1
  generalize (zs.drop (k + 1)).take 2 = rs at *
  obtain ⟨x1, x2, rfl⟩ := list2 hl3
  have hbx1 := hby x1 (by simp)
  have hbx2 := hby x2 (by simp)
  have q0 := lies_cell hsub 0 c rfl
  rw [Nat.add_zero] at q0
  have qa := fun o => ((below_alloc w o).cell (p := ⟨b, off + k, none⟩) hbw).trans q0
  have hV2 : V = endV OP x1 0 (sgn (leN (((c :: [x1, x2]).drop 2).take 1)) 1) 0 3 := by
    rw [hV]
    first | rfl | (simp [fA, fB, fN, leN]; done)
  have hNu := Hid.intro (fun W hW => refnum_any b (off + k) (cap - k) 3 1 2 (c :: [x1, x2]) W rfl hW (by simp) (by omega) (by simp))
  have hnb : -2147483648 ≤ sgn (leN (((c :: [x1, x2]).drop 2).take 1)) 1 ∧ sgn (leN (((c :: [x1, x2]).drop 2).take 1)) 1 ≤ 2147483647 := by
    have h1 := leN_bd (((c :: [x1, x2]).drop 2).take 1) (areBytes_take _ (areBytes_drop _ hby _) _)
    simp only [List.drop, List.take, List.length] at h1 ⊢
    rw [sgn1 _ (by omega)]
    omega
  obtain ⟨NN, hNN⟩ : ∃ NN, NN = sgn (leN (((c :: [x1, x2]).drop 2).take 1)) 1 := ⟨_, rfl⟩
  rw [← hNN] at hV2 hnb
  replace hNu : Hid (∀ W, Lies W (some ⟨b, off + k, none⟩) (c :: [x1, x2]) → Calls Tryd.prog 28 #[.slice (some ⟨b, off + k, none⟩) 3 (cap - k), .int .i64 2, .int .i64 1] W fun e w' => e = .returned (.int .i32 NN) ∧ w' = W) := by
    show ∀ W, _
    rw [hNN]
    exact hNu.out
  have hnbH := Hid.intro hnb
  clear hnb hNN
  have ex1 : IntKind.i64.wrap x1 = x1 := by rw [IntKind.wrap_i64]; omega
  have rx1 : x1 % 256 = x1 := by omega
  have ex2 : IntKind.i64.wrap x2 = x2 := by rw [IntKind.wrap_i64]; omega
  have rx2 : x2 % 256 = x2 := by omega
  have hCk := Hid.intro (fun W => refCheck_any OP x1 0 NN 0 W hnbH.out)
  have hVH := Hid.intro hV2
  unfold endV at hVH
  obtain ⟨C, hC⟩ : ∃ C, C = checkN OP x1 0 NN 0 := ⟨_, rfl⟩
  rw [← hC] at hCk hVH
  have hz0 := Hid.intro (zblk_new w)
  have hTH := Hid.intro hT
  have hsubH := Hid.intro hsub
  have hFiH := Hid.intro hFi
  have hSiH := Hid.intro hSi
  have hShH := Hid.intro hSh
  have e0 : ((m : Int) - k < 3) = False := by simp; omega
  have ek : ((k : Int) == (m : Int)) = false := by simp; omega
  have hMH : Hid (k + 3 - k = 3) := (show _ = _ by omega)
  have eop : (OP == 0) = false := by simpa using hop
  have hk1 : (k : Int) < (m : Int) := by omega
  have hk2 : ¬ ((k : Int) < 0) := by omega
  have hk3 : ¬ ((k : Int) > (m : Int)) := by omega
  clear hT hsub hFi hSi hSh hV hV2 hm hl hc hys hl3 hby hC q0
  by_cases hc0 : C = 0
  · subst hc0
    rw [if_pos rfl] at hVH
    go_enter Tryd.func12, Tryd.ntmps12
    go_wp2_with (first
      | (go_at_call 25; (with_reducible refine (hFiH.out _).mono ?_); rintro e w1 ⟨rfl, hb1⟩; replace hb1 := Hid.intro hb1)
      | (go_at_call 26; (with_reducible refine (hSiH.out _).mono ?_); rintro e w2 ⟨rfl, hb2⟩; replace hb2 := Hid.intro hb2)
      | (go_at_call 27; (with_reducible refine (hShH.out _).mono ?_); rintro e w3 ⟨rfl, hb3⟩; have hR := Hid.intro (rready_of hTH.out hsubH.out hbw hb1.out hb2.out hb3); clear hb3; have hneH : Hid (b ≠ w2.heap.size) := (by show _ ≠ _; have := hR.out.bw; have := hR.out.h.le; omega); have hne := hneH.out; obtain ⟨i0, i1, i2, i3, i4, _⟩ := hR.out.i; have ff := hR.out.f; have c1 := lies_cell hR.out.l 1 x1 rfl; have c2 := lies_cell hR.out.l 2 x2 rfl)
      | (go_at_call 28; (try rw [hMH.out]); (with_reducible refine (hNu.out _ (hR.out.l.set _ 1 _ (fun b' o' h => by cases h; exact hneH.out))).mono ?_); rintro e wq ⟨rfl, rfl⟩)
      | (go_at_call 29; (with_reducible refine (hCk.out _).mono ?_); rintro e w4 ⟨rfl, hb4⟩; have hI4 := ((hR.out.i.setA x1).setN NN).below hb4 ((hR.out.i.setA x1).setN NN).lt; obtain ⟨j0, j1, j2, j3, j4, _⟩ := hI4; have hz4 := Hid.intro (((hR.out.h.set 1 _).set 3 _).z.below hb4 ((hR.out.h.set 1 _).set 3 _).z.lt); obtain ⟨z0, z1, z2, z3, z4, zf⟩ := hz4.out.cells; have hw4 := Hid.intro (chain2 ((hR.out.h.set 1 _).set 3 _).b hb4); clear hb4))
    have hset := hz4.out.set OP x1 0 NN 0
    have hbw4 := below_setInst hw4.out (Nat.le_refl w.heap.size) OP x1 0 NN 0
    change bodyPost _ _ _ _ _ (setInst _ w.heap.size OP x1 0 NN 0)
    generalize setInst _ w.heap.size OP x1 0 NN 0 = WX at *
    obtain ⟨y0, y1, y2, y3, y4, _⟩ := hset
    refine bodyPost_ret (by simp [results, Tryd.results12, go_sem, y0, y1, y2, y3, y4]; try rfl) rfl ?_
    exact ⟨by rw [hVH.out], hbw4⟩
  · rw [if_neg hc0] at hVH
    have e1 : (C == 0) = false := by simpa using hc0
    have e2 : (C != 0) = true := by simpa using hc0
    clear hc0
    go_enter Tryd.func12, Tryd.ntmps12
    go_wp2_with (first
      | (go_at_call 25; (with_reducible refine (hFiH.out _).mono ?_); rintro e w1 ⟨rfl, hb1⟩; replace hb1 := Hid.intro hb1)
      | (go_at_call 26; (with_reducible refine (hSiH.out _).mono ?_); rintro e w2 ⟨rfl, hb2⟩; replace hb2 := Hid.intro hb2)
      | (go_at_call 27; (with_reducible refine (hShH.out _).mono ?_); rintro e w3 ⟨rfl, hb3⟩; have hR := Hid.intro (rready_of hTH.out hsubH.out hbw hb1.out hb2.out hb3); clear hb3; have hneH : Hid (b ≠ w2.heap.size) := (by show _ ≠ _; have := hR.out.bw; have := hR.out.h.le; omega); have hne := hneH.out; obtain ⟨i0, i1, i2, i3, i4, _⟩ := hR.out.i; have ff := hR.out.f; have c1 := lies_cell hR.out.l 1 x1 rfl; have c2 := lies_cell hR.out.l 2 x2 rfl)
      | (go_at_call 28; (try rw [hMH.out]); (with_reducible refine (hNu.out _ (hR.out.l.set _ 1 _ (fun b' o' h => by cases h; exact hneH.out))).mono ?_); rintro e wq ⟨rfl, rfl⟩)
      | (go_at_call 29; (with_reducible refine (hCk.out _).mono ?_); rintro e w4 ⟨rfl, hb4⟩; have hI4 := ((hR.out.i.setA x1).setN NN).below hb4 ((hR.out.i.setA x1).setN NN).lt; obtain ⟨j0, j1, j2, j3, j4, _⟩ := hI4; have hz4 := Hid.intro (((hR.out.h.set 1 _).set 3 _).z.below hb4 ((hR.out.h.set 1 _).set 3 _).z.lt); obtain ⟨z0, z1, z2, z3, z4, zf⟩ := hz4.out.cells; have hw4 := Hid.intro (chain2 ((hR.out.h.set 1 _).set 3 _).b hb4); clear hb4))
    have hset := hz4.out.set 0 0 0 0 0
    have hbw4 := below_setInst hw4.out (Nat.le_refl w.heap.size) 0 0 0 0 0
    change bodyPost _ _ _ _ _ (setInst _ w.heap.size 0 0 0 0 0)
    generalize setInst _ w.heap.size 0 0 0 0 0 = WX at *
    obtain ⟨y0, y1, y2, y3, y4, _⟩ := hset
    refine bodyPost_ret (by simp [results, Tryd.results12, go_sem, y0, y1, y2, y3, y4]; try rfl) rfl ?_
    exact ⟨by rw [hVH.out], hbw4⟩
end Go.Proofs.YthboapfbgdcdoaaDoor
