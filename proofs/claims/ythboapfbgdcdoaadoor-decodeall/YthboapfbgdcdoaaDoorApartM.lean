/- Encodings: how long they are; no two alike, none a beginning of another. -/
import Derived.Test.YthboapfbgdcdoaaDoorEnc3
namespace Go.Proofs.YthboapfbgdcdoaaDoor
open Go.ChangeShapes Go.WideShapes Go.ChangeAt Go.RowKit
set_option linter.unusedVariables false
set_option maxRecDepth 100000

/-- what Check takes, by shape -/
theorem check_parts {op a b n f : Int} (hc : checkN op a b n f = 0) : ∃ s : Nat, (shapeN op).toNat = s ∧ 1 ≤ s ∧ s < 14 ∧ regB a b n s = true ∧ numB n f s = true ∧ 1 ≤ op ∧ op ≤ 43 := by
  obtain ⟨hop, hr, hm, hf⟩ := check_ok hc
  obtain ⟨s, hs, hs14, hsn⟩ := shape_nat op
  rw [hsn] at hr hm
  have := shapeN_some hop
  exact ⟨s, hsn, by omega, hs14, hr, hm, hop⟩

theorem enc_length {op a b n f : Int} (hc : checkN op a b n f = 0) : ((encL op a b n f).length : Int) = lenN op a b n f := by
  obtain ⟨s, hsn, h1, h14, hr, hm, -⟩ := check_parts hc
  rw [lenN, if_pos hc, encL, hsn]
  rcases lim_cases s h14 with rfl | rfl | rfl | rfl | rfl | rfl | rfl | rfl | rfl | rfl | rfl | rfl | rfl | rfl
  · omega
  all_goals try (
    have hf : f = 0 := by simp [numB, spansB] at hm; omega
    subst hf
    simp [putL, widthN, isW, regsL, leB_length, sizeAt1, sizeAt2, sizeAt3, sizeAt4, sizeAt5, sizeAt6, sizeAt7, sizeAt8, sizeAt9, sizeAt10, sizeAt11]
    done)
  all_goals
    have hf : fitsB n f = true := by simpa [numB, spansB] using hm
    rcases fits_form hf with rfl | rfl | rfl <;> simp [putL, widthN, isW, regsL, leB_length, sizeAt12, sizeAt13]

theorem enc_inj {op a b n f a' b' n' : Int} (hc : checkN op a b n f = 0) (hc' : checkN op a' b' n' f = 0) (hn : -2147483648 ≤ n ∧ n ≤ 2147483647) (hn' : -2147483648 ≤ n' ∧ n' ≤ 2147483647) (he : encL op a b n f = encL op a' b' n' f) : a = a' ∧ b = b' ∧ n = n' := by
  obtain ⟨s, hsn, h1, h14, hr, hm, -⟩ := check_parts hc
  obtain ⟨s', hsn', -, -, hr', hm', -⟩ := check_parts hc'
  obtain rfl : s = s' := hsn.symm.trans hsn'
  rw [encL, encL, hsn] at he
  rcases lim_cases s h14 with rfl | rfl | rfl | rfl | rfl | rfl | rfl | rfl | rfl | rfl | rfl | rfl | rfl | rfl
  · omega
  all_goals try (
    have hf : f = 0 := by simp [numB, spansB] at hm; omega
    subst hf
    simp [putL, widthN, isW, regsL, leB] at he
    simp [numB, spansB, nMin1, nMin2, nMin3, nMin4, nMin5, nMin6, nMin7, nMin8, nMin9, nMin10, nMin11, nMax1, nMax2, nMax3, nMax4, nMax5, nMax6, nMax7, nMax8, nMax9, nMax10, nMax11] at hm hm'
    simp [regB, aMax1, aMax2, aMax3, aMax4, aMax5, aMax6, aMax7, aMax8, aMax9, aMax10, aMax11, bMax1, bMax2, bMax3, bMax4, bMax5, bMax6, bMax7, bMax8, bMax9, bMax10, bMax11, nMin7, nMax7] at hr hr'
    omega)
  all_goals
    have hf : fitsB n f = true := by simpa [numB, spansB] using hm
    have hf' : fitsB n' f = true := by simpa [numB, spansB] using hm'
    simp [regB, aMax12, aMax13, bMax12, bMax13] at hr hr'
    rcases fits_form hf with rfl | rfl | rfl
    all_goals
      simp [putL, widthN, isW, regsL, leB] at he
      simp [fitsB] at hf hf'
      omega

/-- the last first byte of an operation -/
def lastAt (i : Nat) : Int := byteAt i + (if spansB (shapeAt i) then 2 else 0)
theorem first_apart {i j : Nat} (hi : i < 43) (hj : j < 43) (h : i ≠ j) : lastAt i < byteAt j ∨ lastAt j < byteAt i := by
  have : ∀ i j : Fin 43, i ≠ j → lastAt i.1 < byteAt j.1 ∨ lastAt j.1 < byteAt i.1 := by decide +kernel
  exact this ⟨i, hi⟩ ⟨j, hj⟩ (fun e => h (Fin.mk.inj e))

theorem first_in {op a b n f : Int} (hc : checkN op a b n f = 0) : byteAt (op - 1).toNat ≤ byteAt (op - 1).toNat + f / 2 ∧ byteAt (op - 1).toNat + f / 2 ≤ lastAt (op - 1).toNat := by
  obtain ⟨s, hsn, h1, h14, hr, hm, ho1, ho2⟩ := check_parts hc
  obtain ⟨-, -, -, hf0, hf4⟩ := check_ok hc
  have hs : shapeAt (op - 1).toNat = (s : Int) := by
    have : shapeN op = shapeAt (op - 1).toNat := by rw [shapeN, if_pos ⟨ho1, ho2⟩]
    rw [← this]
    have := shapeN_some ⟨ho1, ho2⟩
    omega
  refine ⟨by omega, ?_⟩
  rw [lastAt, hs]
  cases hsp : spansB (s : Int) with
  | true => simp; omega
  | false =>
    have hf : f = 0 := by simp [numB, hsp] at hm; omega
    subst hf
    simp

theorem encL_cons (op a b n f : Int) : ∃ t, encL op a b n f = (byteAt (op - 1).toNat + f / 2) :: t := by
  unfold encL putL
  split
  · exact ⟨_, rfl⟩
  · exact ⟨_, rfl⟩

/-- instructions whose encodings begin alike are alike -/
theorem enc_apart {op a b n f op' a' b' n' f' : Int} (hc : checkN op a b n f = 0) (hc' : checkN op' a' b' n' f' = 0) (hn : -2147483648 ≤ n ∧ n ≤ 2147483647) (hn' : -2147483648 ≤ n' ∧ n' ≤ 2147483647) (k : Nat) (hk : k = (encL op a b n f).length ∨ k = (encL op' a' b' n' f').length) (h0 : 0 < k)
    (he : (encL op a b n f).take k = (encL op' a' b' n' f').take k) : op = op' ∧ a = a' ∧ b = b' ∧ n = n' ∧ f = f' := by
  have f1 := first_in hc
  have f2 := first_in hc'
  obtain ⟨s, hsn, h1, h14, hr, hm, ho1, ho2⟩ := check_parts hc
  obtain ⟨s', hsn', h1', h14', hr', hm', ho1', ho2'⟩ := check_parts hc'
  have hb : byteAt (op - 1).toNat + f / 2 = byteAt (op' - 1).toNat + f' / 2 := by
    obtain ⟨t, ht⟩ := encL_cons op a b n f
    obtain ⟨t', ht'⟩ := encL_cons op' a' b' n' f'
    obtain ⟨j, rfl⟩ : ∃ j, k = j + 1 := ⟨k - 1, by omega⟩
    rw [ht, ht', List.take_succ_cons, List.take_succ_cons] at he
    exact (List.cons.inj he).1
  have hop : op = op' := by
    by_cases h : (op - 1).toNat = (op' - 1).toNat
    · omega
    · have := first_apart (i := (op - 1).toNat) (j := (op' - 1).toNat) (by omega) (by omega) h
      omega
  subst hop
  obtain rfl : s = s' := hsn.symm.trans hsn'
  have hf : f = f' := by
    have hfe : f / 2 = f' / 2 := by omega
    cases hsp : spansB (s : Int) with
    | true =>
      have g1 : fitsB n f = true := by simpa [numB, hsp] using hm
      have g2 : fitsB n' f' = true := by simpa [numB, hsp] using hm'
      rcases fits_form g1 with rfl | rfl | rfl <;> rcases fits_form g2 with rfl | rfl | rfl <;> first | rfl | omega
    | false =>
      simp [numB, hsp] at hm hm'
      omega
  subst hf
  have hl : (encL op a b n f).length = (encL op a' b' n' f).length := by
    have e1 := enc_length hc
    have e2 := enc_length hc'
    rw [lenN, if_pos hc] at e1
    rw [lenN, if_pos hc'] at e2
    omega
  have he2 : encL op a b n f = encL op a' b' n' f := by
    rcases hk with hk | hk
    · rw [hk, List.take_length, hl, List.take_length] at he
      exact he
    · rw [hk, List.take_length, ← hl, List.take_length] at he
      exact he
  obtain ⟨x, y, z⟩ := enc_inj hc hc' hn hn' he2
  exact ⟨rfl, x, y, z, rfl⟩

theorem byte_inj {x y : Int} (hx : 0 ≤ x ∧ x ≤ 255) (hy : 0 ≤ y ∧ y ≤ 255) (h : UInt8.ofNat x.toNat = UInt8.ofNat y.toNat) : x = y := by
  have := congrArg UInt8.toNat h
  simp at this
  omega
theorem strOf_inj : ∀ {xs ys : List Int}, AreBytes xs → AreBytes ys → strOfNums xs = strOfNums ys → xs = ys
  | xs, ys, hx, hy, h => by
    have h' : (xs.map fun n => UInt8.ofNat n.toNat) = ys.map fun n => UInt8.ofNat n.toNat := by
      have := congrArg (fun s => s.data.toList) h
      exact this
    clear h
    induction xs generalizing ys with
    | nil => cases ys with
      | nil => rfl
      | cons y ys => cases h'
    | cons x xs ih => cases ys with
      | nil => cases h'
      | cons y ys =>
        simp only [List.map_cons, List.cons.injEq] at h'
        rw [byte_inj (hx x (by simp)) (hy y (by simp)) h'.1, ih ys (fun z hz => hx z (by simp [hz])) (fun z hz => hy z (by simp [hz])) h'.2]
end Go.Proofs.YthboapfbgdcdoaaDoor
