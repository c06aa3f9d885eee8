/- What Encode lays is decoded to the same instruction; what is decoded is encoded to the bytes that it took. -/
import Derived.Test.YthboapfbgdcdoaaDoorDecode
import Derived.Test.YthboapfbgdcdoaaDoorLims
namespace Go.Proofs.YthboapfbgdcdoaaDoor
open Go.ChangeShapes Go.WideShapes Go.ChangeAt Go.RowKit
set_option linter.unusedVariables false
set_option linter.unusedSimpArgs false
set_option maxRecDepth 100000

theorem sgnLe1 (x : Int) (h : 0 ≤ x ∧ x ≤ 255) : sgn (leN [x]) 1 = (x + 128) % 256 - 128 := by
  rw [sgn1 _ (by simp [leN]; omega)]
  simp [leN]
theorem sgnLe2 (x y : Int) (h : 0 ≤ x ∧ x ≤ 255) (g : 0 ≤ y ∧ y ≤ 255) : sgn (leN [x, y]) 2 = (x + 256 * y + 32768) % 65536 - 32768 := by
  rw [sgn2 _ (by simp [leN]; omega)]
  simp [leN]
theorem sgnLe4 (x y z u : Int) (h : 0 ≤ x ∧ x ≤ 255) (g : 0 ≤ y ∧ y ≤ 255) (i : 0 ≤ z ∧ z ≤ 255) (j : 0 ≤ u ∧ u ≤ 255) : sgn (leN [x, y, z, u]) 4 = (x + 256 * y + 65536 * z + 16777216 * u + 2147483648) % 4294967296 - 2147483648 := by
  rw [sgn4 _ (by simp [leN]; omega)]
  simp [leN]
  omega

theorem lst1 {α : Type} {l : List α} (h : l.length = 1) : ∃ a, l = [a] := by
  match l, h with
  | [a], _ => exact ⟨a, rfl⟩
theorem lst2 {α : Type} {l : List α} (h : l.length = 2) : ∃ a b, l = [a, b] := by
  match l, h with
  | [a, b], _ => exact ⟨a, b, rfl⟩
theorem lst4 {α : Type} {l : List α} (h : l.length = 4) : ∃ a b c d, l = [a, b, c, d] := by
  match l, h with
  | [a, b, c, d], _ => exact ⟨a, b, c, d, rfl⟩

/-- the parts of the bytes behind the first are the parts that were encoded -/
theorem parts_enc {op a b n f : Int} {s : Nat} {c : Int} {t : List Int} (hr : regB a b n s = true) (hm : numB n f s = true) (h1 : 1 ≤ s) (h14 : s < 14) (hn : -2147483648 ≤ n ∧ n ≤ 2147483647) (ht : putL ([c] ++ regsL a b n s) (n % 4294967296) (widthN s f) = c :: t) : fA s t = a ∧ fB s t = b ∧ fN s f t = n := by
  rcases lim_cases s h14 with rfl | rfl | rfl | rfl | rfl | rfl | rfl | rfl | rfl | rfl | rfl | rfl | rfl | rfl
  · omega
  all_goals try (
    have hf : f = 0 := by simp [numB, spansB] at hm; omega
    subst hf
    simp [putL, widthN, isW, regsL, leB] at ht
    subst ht
    simp [numB, spansB, nMin1, nMin2, nMin3, nMin4, nMin5, nMin6, nMin7, nMin8, nMin9, nMin10, nMin11, nMax1, nMax2, nMax3, nMax4, nMax5, nMax6, nMax7, nMax8, nMax9, nMax10, nMax11] at hm
    simp [regB, aMax1, aMax2, aMax3, aMax4, aMax5, aMax6, aMax7, aMax8, aMax9, aMax10, aMax11, bMax1, bMax2, bMax3, bMax4, bMax5, bMax6, bMax7, bMax8, bMax9, bMax10, bMax11, nMin7, nMax7] at hr
    simp [fA, fB, fN]
    first | omega | (rw [sgnLe1 _ (by omega)]; omega) | (rw [sgnLe4 _ _ _ _ (by omega) (by omega) (by omega) (by omega)]; omega) | (simp [leN]; omega))
  all_goals
    have hf : fitsB n f = true := by simpa [numB, spansB] using hm
    simp [regB, aMax12, aMax13, bMax12, bMax13] at hr
    rcases fits_form hf with rfl | rfl | rfl
    all_goals
      simp [putL, widthN, isW, regsL, leB] at ht
      subst ht
      simp [fitsB] at hf
      simp [fA, fB, fN]
      first | (rw [sgnLe1 _ (by omega)]; omega) | (rw [sgnLe2 _ _ (by omega) (by omega)]; omega) | (rw [sgnLe4 _ _ _ _ (by omega) (by omega) (by omega) (by omega)]; omega)

/-- the bytes behind the first are the bytes that their parts are encoded to -/
theorem enc_parts {f : Int} {s : Nat} {c : Int} {t : List Int} (hb : AreBytes t) (hl : (t.length : Int) + 1 = sizeAt s + f) (h1 : 1 ≤ s) (h14 : s < 14) (hf : (spansB (s : Int) = false ∧ f = 0) ∨ (spansB (s : Int) = true ∧ (f = 1 ∨ f = 2 ∨ f = 4))) :
    putL ([c] ++ regsL (fA s t) (fB s t) (fN s f t) s) (fN s f t % 4294967296) (widthN s f) = c :: t ∧ (-2147483648 ≤ fN s f t ∧ fN s f t ≤ 2147483647) := by
  rcases lim_cases s h14 with rfl | rfl | rfl | rfl | rfl | rfl | rfl | rfl | rfl | rfl | rfl | rfl | rfl | rfl
  · omega
  all_goals try (
    have hf0 : f = 0 := by simp [spansB] at hf; omega
    subst hf0
    simp [sizeAt1, sizeAt2, sizeAt3, sizeAt4, sizeAt5, sizeAt6, sizeAt7, sizeAt8, sizeAt9, sizeAt10, sizeAt11] at hl
    first
      | (obtain rfl : t = [] := List.length_eq_zero_iff.1 (by omega); simp [putL, widthN, isW, regsL, leB, fN]; done)
      | (obtain ⟨x, rfl⟩ := lst1 (show t.length = 1 by omega); have hx := hb x (by simp); simp [putL, widthN, isW, regsL, leB, fA, fB, fN, leN]; omega)
      | (obtain ⟨x, rfl⟩ := lst1 (show t.length = 1 by omega); have hx := hb x (by simp); simp [putL, widthN, isW, regsL, leB, fA, fB, fN, leN]; done)
      | (obtain ⟨x, y, rfl⟩ := lst2 (show t.length = 2 by omega); have hx := hb x (by simp); have hy := hb y (by simp); simp [putL, widthN, isW, regsL, leB, fA, fB, fN]; omega)
      | (obtain ⟨x, y, rfl⟩ := lst2 (show t.length = 2 by omega); have hx := hb x (by simp); have hy := hb y (by simp); simp [putL, widthN, isW, regsL, leB, fA, fB, fN]; rw [sgnLe1 y hy]; omega)
      | (obtain ⟨x, y, z, rfl⟩ := list3 (show t.length = 3 by omega); have hx := hb x (by simp); have hy := hb y (by simp); have hz := hb z (by simp); simp [putL, widthN, isW, regsL, leB, fA, fB, fN, leN]; omega)
      | (obtain ⟨x, y, z, u, v, rfl⟩ := list5 (show t.length = 5 by omega); have hx := hb x (by simp); have hy := hb y (by simp); have hz := hb z (by simp); have hu := hb u (by simp); have hv := hb v (by simp); simp [putL, widthN, isW, regsL, leB, fA, fB, fN]; rw [sgnLe4 y z u v hy hz hu hv]; omega)
    done)
  all_goals
    have hf0 : f = 1 ∨ f = 2 ∨ f = 4 := by simp [spansB] at hf; omega
    simp [sizeAt12, sizeAt13] at hl
    rcases hf0 with rfl | rfl | rfl
    all_goals first
      | (obtain ⟨x, rfl⟩ := lst1 (show t.length = 1 by omega); have hx := hb x (by simp); simp [putL, widthN, isW, regsL, leB, fA, fB, fN]; rw [sgnLe1 x hx]; omega)
      | (obtain ⟨x, y, rfl⟩ := lst2 (show t.length = 2 by omega); have hx := hb x (by simp); have hy := hb y (by simp); simp [putL, widthN, isW, regsL, leB, fA, fB, fN]; rw [sgnLe2 x y hx hy]; omega)
      | (obtain ⟨x, y, rfl⟩ := lst2 (show t.length = 2 by omega); have hx := hb x (by simp); have hy := hb y (by simp); simp [putL, widthN, isW, regsL, leB, fA, fB, fN]; rw [sgnLe1 y hy]; omega)
      | (obtain ⟨x, y, z, rfl⟩ := list3 (show t.length = 3 by omega); have hx := hb x (by simp); have hy := hb y (by simp); have hz := hb z (by simp); simp [putL, widthN, isW, regsL, leB, fA, fB, fN]; rw [sgnLe2 y z hy hz]; omega)
      | (obtain ⟨x, y, z, u, rfl⟩ := lst4 (show t.length = 4 by omega); have hx := hb x (by simp); have hy := hb y (by simp); have hz := hb z (by simp); have hu := hb u (by simp); simp [putL, widthN, isW, regsL, leB, fA, fB, fN]; rw [sgnLe4 x y z u hx hy hz hu]; omega)
      | (obtain ⟨x, y, z, u, v, rfl⟩ := list5 (show t.length = 5 by omega); have hx := hb x (by simp); have hy := hb y (by simp); have hz := hb z (by simp); have hu := hb u (by simp); have hv := hb v (by simp); simp [putL, widthN, isW, regsL, leB, fA, fB, fN]; rw [sgnLe4 y z u v hy hz hu hv]; omega)

theorem shape_at {op : Int} {s : Nat} (h : 1 ≤ op ∧ op ≤ 43) (hs : (shapeN op).toNat = s) : shapeAt (op - 1).toNat = (s : Int) := by
  have e : shapeN op = shapeAt (op - 1).toNat := by rw [shapeN, if_pos h]
  have := shapeN_some h
  omega

/-- P7.3, one way -/
theorem enc_dec {op a b n f : Int} (hc : checkN op a b n f = 0) (hn : -2147483648 ≤ n ∧ n ≤ 2147483647) (pre post : List Int) :
    decE (pre ++ (encL op a b n f ++ post)) pre.length = 0 ∧ decX (pre ++ (encL op a b n f ++ post)) pre.length = ⟨op, a, b, n, f⟩ ∧ decL (pre ++ (encL op a b n f ++ post)) pre.length = (encL op a b n f).length := by
  obtain ⟨s, hsn, h1, h14, hr, hm, ho1, ho2⟩ := check_parts hc
  obtain ⟨hhit, hfrm⟩ := hit_of hc
  obtain ⟨t, ht⟩ := encL_cons op a b n f
  have hlen := enc_length hc
  rw [lenN, if_pos hc, hsn, ht] at hlen
  have hbeg := beg_of (by omega : (op - 1).toNat < 43) hhit
  rw [encL, hsn] at ht
  have hsa := shape_at ⟨ho1, ho2⟩ hsn
  have hparts := parts_enc (op := op) hr hm h1 h14 hn (c := byteAt (op - 1).toNat + f / 2) (t := t) ht
  have hE : encL op a b n f = (byteAt (op - 1).toNat + f / 2) :: t := by rw [encL, hsn]; exact ht
  rw [hE]
  generalize byteAt (op - 1).toNat + f / 2 = c at *
  have hop : opI c = op := by rw [opI, hbeg]; omega
  have hfr : frmI c = f := by rw [frmI, hbeg]; exact hfrm
  have hsh : shpI c = s := by rw [shpI, hbeg, hsa, Int.toNat_natCast]
  have hsz : sizI c = ((c :: t).length : Int) := by rw [sizI, hsh, hfr]; exact hlen.symm
  have hget : (pre ++ (c :: t ++ post)).getD pre.length 0 = c := by simp
  have hrst : rstL (pre ++ (c :: t ++ post)) pre.length = t := by
    rw [rstL, hget, hsz]
    simp
  have hraw : rawI (pre ++ (c :: t ++ post)) pre.length = ⟨op, a, b, n, f⟩ := by
    rw [rawI, hrst, hget, hop, hsh, hfr, hparts.1, hparts.2.1, hparts.2.2]
  have hhd : hdE (pre ++ (c :: t ++ post)) pre.length = 0 := by
    rw [hdE, Int.toNat_natCast, hget, hsz]
    have hl : ((pre ++ (c :: t ++ post)).length : Int) = pre.length + ((t.length : Int) + 1) + post.length := by simp; omega
    rw [hl, if_neg (by omega), if_neg (by omega), if_neg (by rw [hbeg]; omega), if_neg (by simp; omega)]
  have hde : decE (pre ++ (c :: t ++ post)) pre.length = 0 := by
    rw [decE, if_pos hhd, Int.toNat_natCast, hraw]
    exact hc
  refine ⟨hde, ?_, ?_⟩
  · rw [decX, if_pos hde, Int.toNat_natCast, hraw]
  · rw [decL, if_pos hde, Int.toNat_natCast, hget, hsz]

/-- P7.3, the other way -/
theorem dec_enc {zs : List Int} {at' : Int} (hz : AreBytes zs) (h : decE zs at' = 0) : ∃ k n : Nat, at' = k ∧ decL zs at' = n ∧ 1 ≤ n ∧ n ≤ 10 ∧ k + n ≤ zs.length ∧ (decX zs at').chk = 0 ∧ (decX zs at').ok ∧ encL (decX zs at').o (decX zs at').a (decX zs at').b (decX zs at').n (decX zs at').f = (zs.drop k).take n := by
  have hhd : hdE zs at' = 0 := by
    by_cases hq : hdE zs at' = 0
    · exact hq
    · rw [decE, if_neg hq] at h; exact absurd h hq
  obtain ⟨k, rfl, hkl, hb43, hfit⟩ := hdE_ok hhd
  have hchk : (rawI zs k).chk = 0 := by rw [decE, if_pos hhd, Int.toNat_natCast] at h; exact h
  have hX : decX zs k = rawI zs k := by rw [decX, if_pos h, Int.toNat_natCast]
  have hL : decL zs k = sizI (zs.getD k 0) := by rw [decL, if_pos h, Int.toNat_natCast]
  have hsr := siz_range hb43
  obtain ⟨s, hs, hsn, h1, h14⟩ := shp_nat hb43
  have hfc := frm_cases (begI_is hb43)
  have hsh : shpI (zs.getD k 0) = s := hsn
  refine ⟨k, (sizI (zs.getD k 0)).toNat, rfl, by rw [hL]; omega, by omega, by omega, by omega, by rw [hX]; exact hchk, ?_⟩
  rw [hX]
  have hrl : ((rstL zs k).length : Int) + 1 = sizI (zs.getD k 0) := by
    rw [rstL, List.length_take, List.length_drop]
    omega
  have hrb : AreBytes (rstL zs k) := areBytes_take _ (areBytes_drop _ hz _) _
  have hcut : (zs.drop k).take (sizI (zs.getD k 0)).toNat = zs.getD k 0 :: rstL zs k := by
    obtain ⟨j, hj⟩ : ∃ j, (sizI (zs.getD k 0)).toNat = j + 1 := ⟨(sizI (zs.getD k 0)).toNat - 1, by omega⟩
    rw [rstL, hj, List.drop_eq_getElem_cons hkl, List.take_succ_cons, List.getD_eq_getElem?_getD, List.getElem?_eq_getElem hkl]
    rfl
  rw [hcut]
  have hff : (spansB (s : Int) = false ∧ frmI (zs.getD k 0) = 0) ∨ (spansB (s : Int) = true ∧ (frmI (zs.getD k 0) = 1 ∨ frmI (zs.getD k 0) = 2 ∨ frmI (zs.getD k 0) = 4)) := by
    rw [← hs]
    rcases hfc with ⟨e, e0, _⟩ | ⟨e, ⟨e0, _⟩ | ⟨e0, _⟩ | ⟨e0, _⟩⟩
    · exact .inl ⟨e, e0⟩
    · exact .inr ⟨e, .inl e0⟩
    · exact .inr ⟨e, .inr (.inl e0)⟩
    · exact .inr ⟨e, .inr (.inr e0)⟩
  have hep := enc_parts (c := zs.getD k 0) hrb (by rw [hrl, sizI, hsh]) h1 h14 hff
  have hby : byteAt (begI (zs.getD k 0)) + frmI (zs.getD k 0) / 2 = zs.getD k 0 := by
    have e : frmI (zs.getD k 0) = formI (begI (zs.getD k 0)) (zs.getD k 0) := rfl
    rw [e]
    rcases hfc with ⟨_, e0, e1⟩ | ⟨_, ⟨e0, e1⟩ | ⟨e0, e1⟩ | ⟨e0, e1⟩⟩ <;> rw [e0] <;> omega
  constructor
  · show -2147483648 ≤ fN _ _ _ ∧ fN _ _ _ ≤ 2147483647
    rw [hsh]
    exact hep.2
  · show encL (opI _) (fA _ _) (fB _ _) (fN _ _ _) (frmI _) = _
    have hop : 1 ≤ opI (zs.getD k 0) ∧ opI (zs.getD k 0) ≤ 43 := by unfold opI; omega
    have hi : (opI (zs.getD k 0) - 1).toNat = begI (zs.getD k 0) := by unfold opI; omega
    have hS : (shapeN (opI (zs.getD k 0))).toNat = s := by rw [shapeN, if_pos hop, hi, hs, Int.toNat_natCast]
    rw [encL, hS, hi, hby, hsh]
    exact hep.1
end Go.Proofs.YthboapfbgdcdoaaDoor
