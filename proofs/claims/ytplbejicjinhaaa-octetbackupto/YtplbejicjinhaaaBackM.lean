/- Plain facts for OctetBack: what was laid is read. -/
import Derived.Test.YtplbejicjinhaaaPutsW
import Derived.Test.YtplbejicjinhaaaText
namespace Go.Proofs.Ytplbejicjinhaaa
open Go.ChangeShapes Go.WideShapes Go.ChangeAt Go.RowKit
set_option linter.unusedVariables false

theorem leN_leB (n : Int) (k : Nat) (hn : 0 ≤ n) : leN (leB n k) = n % 256 ^ k := by
  induction k generalizing n with
  | zero => simp [leB, leN, Int.emod_one]
  | succ k ih =>
    rw [leB, leN, ih (n / 256) (by omega)]
    have hp : (0 : Int) < 256 ^ k := Int.pow_pos (by omega)
    have h1 : n / (256 * 256 ^ k) = n / 256 / 256 ^ k := by rw [Int.ediv_ediv]; simp
    rw [Int.pow_succ, Int.mul_comm (256 ^ k) 256, Int.emod_def (n / 256) (256 ^ k), Int.emod_def n (256 * 256 ^ k), h1, Int.mul_assoc]
    generalize 256 ^ k * (n / 256 / 256 ^ k) = x
    omega

theorem back_part (zs ts : List Int) (n : Int) (wd : Nat) : ((zs ++ leB n wd ++ ts).drop zs.length).take wd = leB n wd := by
  rw [List.append_assoc, List.drop_left, List.take_left' (leB_length n wd)]

theorem back_getE (zs ts : List Int) (n : Int) (wd : Nat) (hw : wd = 1 ∨ wd = 2 ∨ wd = 4) : getE (zs ++ leB n wd ++ ts) zs.length wd = 0 := by
  have hW : isW (wd : Int) = true := by rcases hw with rfl | rfl | rfl <;> rfl
  have hl : (zs ++ leB n wd ++ ts).length = zs.length + wd + ts.length := by simp [leB_length]; omega
  simp only [getE, hl, hW]
  rw [if_neg (by simp; omega), if_neg (by omega)]
theorem back_getN (zs ts : List Int) (n : Int) (wd : Nat) (hw : wd = 1 ∨ wd = 2 ∨ wd = 4) (hn : 0 ≤ n) : getN (zs ++ leB n wd ++ ts) zs.length wd = n % 256 ^ wd := by
  simp only [getN, back_getE zs ts n wd hw, if_true]
  have e : ((zs.length : Int)).toNat = zs.length := by omega
  have e' : ((wd : Nat) : Int).toNat = wd := by omega
  rw [e, e', back_part, leN_leB n wd hn]

theorem back_fits (n m : Int) (hn : 0 ≤ n ∧ n ≤ 4294967295) (k : Int) (hk : (k = 1 ∧ m = n % 256) ∨ (k = 2 ∧ m = n % 65536) ∨ (k = 4 ∧ m = n)) : (sgn m k == wrap32 n) = fitsB (wrap32 n) k := by
  rcases hk with ⟨rfl, rfl⟩ | ⟨rfl, rfl⟩ | ⟨rfl, rfl⟩
  · rw [Bool.eq_iff_iff]
    simp [sgn, fitsB, wrap32, i8wrap]
    omega
  · rw [Bool.eq_iff_iff]
    simp [sgn, fitsB, wrap32, i16wrap]
    omega
  · rw [Bool.eq_iff_iff]
    simp [sgn, fitsB, wrap32]

theorem strOf_numsOf (s : ByteArray) : strOfNums (numsOf s) = s := by
  apply ByteArray.ext
  apply Array.toList_inj.1
  rw [strOfNums_data, numsOf, List.map_map]
  conv => rhs; rw [← List.map_id s.data.toList]
  apply List.map_congr_left
  intro x _
  simp

theorem backT_getE (zs ts : List Int) (s : ByteArray) : getE (putT zs s ++ ts) zs.length 2 = 0 := by
  have := back_getE zs (numsOf s ++ ts) ((s.size : Int) % 4294967296) 2 (by omega)
  simpa [putT] using this
theorem backT_getN (zs ts : List Int) (s : ByteArray) (hs : s.size ≤ 60000) : getN (putT zs s ++ ts) zs.length 2 = s.size := by
  have := back_getN zs (numsOf s ++ ts) ((s.size : Int) % 4294967296) 2 (by omega) (by omega)
  have e : putT zs s ++ ts = zs ++ leB ((s.size : Int) % 4294967296) 2 ++ (numsOf s ++ ts) := by simp [putT]
  rw [e]
  have h2 : ((2 : Nat) : Int) = 2 := rfl
  rw [h2] at this
  rw [this]
  omega
theorem backT_TE (zs ts : List Int) (s : ByteArray) (hs : s.size ≤ 60000) : getTE (putT zs s ++ ts) zs.length s.size = 0 := by
  have hl : (putT zs s ++ ts).length = zs.length + 2 + s.size + ts.length := by rw [List.length_append, putT_length]
  simp only [getTE, backT_getE, backT_getN zs ts s hs, if_true, hl]
  rw [if_neg (by omega), if_neg (by omega)]
theorem backT_To (zs ts : List Int) (s : ByteArray) (hs : s.size ≤ 60000) : getTo (putT zs s ++ ts) zs.length s.size = zs.length + 2 + s.size := by
  simp only [getTo, backT_TE zs ts s hs, backT_getN zs ts s hs, if_true]
theorem backT_TS (zs ts : List Int) (s : ByteArray) (hs : s.size ≤ 60000) : getTS (putT zs s ++ ts) zs.length s.size = s := by
  simp only [getTS, backT_TE zs ts s hs, backT_getN zs ts s hs, if_true]
  have e1 : ((zs.length : Int)).toNat + 2 = zs.length + 2 := by omega
  have e2 : ((s.size : Int)).toNat = s.size := by omega
  rw [e1, e2]
  have e3 : (putT zs s ++ ts).drop (zs.length + 2) = numsOf s ++ ts := by
    have h : (zs ++ leB ((s.size : Int) % 4294967296) 2).length = zs.length + 2 := by simp [leB_length]
    rw [putT, List.append_assoc, ← h, List.drop_left]
  rw [e3, List.take_left' (numsOf_length s), strOf_numsOf]
end Go.Proofs.Ytplbejicjinhaaa
