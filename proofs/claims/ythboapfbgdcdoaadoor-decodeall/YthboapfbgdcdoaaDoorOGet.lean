/- Contracts of octet.Get and of the document's Get, and of the runs that every statement of this stage asks: what they answer of bytes that lie in memory. -/
import Derived.Test.YthboapfbgdcdoaaDoorOLies
/- Contracts of octet's small functions that only compute: isWidth, Signed, Fits, and the document's Signed and Fits. -/
namespace Go.Proofs.YthboapfbgdcdoaaDoor
open Go.ChangeShapes Go.WideShapes Go.ChangeAt Go.RowKit
set_option linter.unusedVariables false

/-- the number with its sign that the lowest m bytes of n are -/
def sgn (n m : Int) : Int := if m = 1 then wrap32 (IntKind.i8.wrap n) else if m = 2 then wrap32 (IntKind.i16.wrap n) else if m = 4 then wrap32 n else 0

theorem signed_any (n m : Int) (w : World) :
    Calls Tryd.prog 38 #[.int .u32 n, .int .i64 m] w fun e w' => e = .returned (.int .i32 (sgn n m)) ∧ w' = w := by
  by_cases h1 : m = 1
  · subst h1
    go_enter Tryd.func38, Tryd.ntmps38
    go_wp2
    go_ret
    exact ⟨rfl, rfl⟩
  · have e1 : (m == 1) = false := by simpa using h1
    by_cases h2 : m = 2
    · subst h2
      go_enter Tryd.func38, Tryd.ntmps38
      go_wp2
      go_ret
      exact ⟨rfl, rfl⟩
    · have e2 : (m == 2) = false := by simpa using h2
      by_cases h4 : m = 4
      · subst h4
        go_enter Tryd.func38, Tryd.ntmps38
        go_wp2
        go_ret
        exact ⟨rfl, rfl⟩
      · have e4 : (m == 4) = false := by simpa using h4
        have hs : sgn n m = 0 := by simp [sgn, h1, h2, h4]
        rw [hs]
        go_enter Tryd.func38, Tryd.ntmps38
        go_wp2
        go_ret
        exact ⟨rfl, rfl⟩

theorem refSigned_any (n m : Int) (w : World) :
    Calls Tryd.prog 44 #[.int .u32 n, .int .i64 m] w fun e w' => e = .returned (.int .i32 (sgn n m)) ∧ w' = w := by
  by_cases h1 : m = 1
  · subst h1
    go_enter Tryd.func44, Tryd.ntmps44
    go_wp2
    go_ret
    exact ⟨rfl, rfl⟩
  · have e1 : (m == 1) = false := by simpa using h1
    by_cases h2 : m = 2
    · subst h2
      go_enter Tryd.func44, Tryd.ntmps44
      go_wp2
      go_ret
      exact ⟨rfl, rfl⟩
    · have e2 : (m == 2) = false := by simpa using h2
      by_cases h4 : m = 4
      · subst h4
        go_enter Tryd.func44, Tryd.ntmps44
        go_wp2
        go_ret
        exact ⟨rfl, rfl⟩
      · have e4 : (m == 4) = false := by simpa using h4
        have hs : sgn n m = 0 := by simp [sgn, h1, h2, h4]
        rw [hs]
        go_enter Tryd.func44, Tryd.ntmps44
        go_wp2
        go_ret
        exact ⟨rfl, rfl⟩

end Go.Proofs.YthboapfbgdcdoaaDoor
namespace Go.Proofs.YthboapfbgdcdoaaDoor
open Go.ChangeShapes Go.WideShapes Go.ChangeAt Go.RowKit
set_option linter.unusedVariables false

theorem get_ok (b off k wd cap : Nat) (zs : List Int) (w : World) (hz : AreBytes zs) (hc : ∀ i, i < zs.length → w.cell? ⟨b, off + i, none⟩ = some (.int .u8 (zs.getD i 0)))
    (hm : zs.length ≤ maxLen) (hw : wd = 1 ∨ wd = 2 ∨ wd = 4) (hk : k + wd ≤ zs.length) :
    Calls Tryd.prog 37 #[.slice (some ⟨b, off, none⟩) zs.length cap, .int .i64 k, .int .i64 wd] w fun e w' => e = .returned (.tuple #[.int .u32 (leN ((zs.drop k).take wd)), .int .i64 0]) ∧ w' = w := by
  have hW : isW (wd : Int) = true := by rcases hw with rfl | rfl | rfl <;> rfl
  have hw4 : wd ≤ 4 := by omega
  unfold maxLen at hm
  go_enter Tryd.func37, Tryd.ntmps37
  go_wp2_with (first | (go_at_call 48; refine (isWidth_any _ _).mono ?_; rintro e w' ⟨rfl, rfl⟩))
  go_loop [8, 30] (fun n i => ∃ j : Nat, j ≤ wd ∧ i = .int .i64 j ∧ n = .int .u32 (leN ((zs.drop k).take j))) (fun _ i => wd - (intOf i).toNat)
  case atStart => exact ⟨0, Nat.zero_le _, rfl, rfl⟩
  case round =>
    obtain ⟨j, hj, rfl, rfl⟩ := hrel
    by_cases hlt : j < wd
    · have hcell := hc (k + j) (by omega)
      go_wp2
      go_round
      case rel => exact ⟨j + 1, by omega, by go_num, by rw [leN_step zs hz k j (by omega) (by omega)]⟩
      case measure => simp [intOf]; omega
    · go_wp2
      go_ret2
      have e : j = wd := by omega
      subst e
      exact ⟨rfl, rfl⟩

theorem get_any (a : Option Addr) (cap : Nat) (zs : List Int) (at' width : Int) (w : World) (hl : Lies w a zs) (hm : zs.length ≤ maxLen) (ha : -9223372036854775808 ≤ at' ∧ at' ≤ 9223372036854775807) :
    Calls Tryd.prog 37 #[.slice a zs.length cap, .int .i64 at', .int .i64 width] w fun e w' => e = .returned (.tuple #[.int .u32 (getN zs at' width), .int .i64 (getE zs at' width)]) ∧ w' = w := by
  by_cases h1 : isW width = false
  · have e : getE zs at' width = 1 := by simp [getE, h1]
    have e' : getN zs at' width = 0 := by simp [getN, e]
    rw [e, e']
    clear e e'
    unfold maxLen at hm
    go_enter Tryd.func37, Tryd.ntmps37
    go_wp2_with (first | (go_at_call 48; refine (isWidth_any _ _).mono ?_; rintro e w' ⟨rfl, rfl⟩))
    go_ret2
    exact ⟨rfl, rfl⟩
  · replace h1 : isW width = true := by simpa using h1
    by_cases h2 : at' < 0
    · have e : getE zs at' width = 1 := by simp [getE, h2]
      have e' : getN zs at' width = 0 := by simp [getN, e]
      rw [e, e']
      clear e e'
      unfold maxLen at hm
      go_enter Tryd.func37, Tryd.ntmps37
      go_wp2_with (first | (go_at_call 48; refine (isWidth_any _ _).mono ?_; rintro e w' ⟨rfl, rfl⟩))
      go_ret2
      exact ⟨rfl, rfl⟩
    · by_cases h3 : (zs.length : Int) < at'
      · have e : getE zs at' width = 1 := by simp [getE, h3]
        have e' : getN zs at' width = 0 := by simp [getN, e]
        rw [e, e']
        clear e e'
        unfold maxLen at hm
        go_enter Tryd.func37, Tryd.ntmps37
        go_wp2_with (first | (go_at_call 48; refine (isWidth_any _ _).mono ?_; rintro e w' ⟨rfl, rfl⟩))
        go_ret2
        exact ⟨rfl, rfl⟩
      · obtain ⟨k, rfl⟩ : ∃ k : Nat, at' = k := ⟨at'.toNat, by omega⟩
        by_cases h4 : (zs.length : Int) - k < width
        · have e : getE zs k width = 10 := by simp only [getE]; rw [if_neg (by simp [h1]; omega), if_pos h4]
          have e' : getN zs k width = 0 := by simp [getN, e]
          rw [e, e']
          clear e e'
          unfold maxLen at hm
          go_enter Tryd.func37, Tryd.ntmps37
          go_wp2_with (first | (go_at_call 48; refine (isWidth_any _ _).mono ?_; rintro e w' ⟨rfl, rfl⟩))
          go_ret2
          exact ⟨rfl, rfl⟩
        · have e : getE zs k width = 0 := by simp only [getE]; rw [if_neg (by simp [h1]; omega), if_neg h4]
          have hwc := isW_cases h1
          obtain ⟨wd, rfl⟩ : ∃ wd : Nat, width = wd := ⟨width.toNat, by omega⟩
          have e' : getN zs k wd = leN ((zs.drop k).take wd) := by simp [getN, e]
          rw [e, e']
          obtain ⟨hz, hb⟩ := hl
          rcases hb with rfl | ⟨b, off, rfl, hc⟩
          · simp at h4; omega
          · exact get_ok b off k wd cap zs w hz hc hm (by omega) (by omega)

theorem refGet_ok (b off k wd cap : Nat) (zs : List Int) (w : World) (hz : AreBytes zs) (hc : ∀ i, i < zs.length → w.cell? ⟨b, off + i, none⟩ = some (.int .u8 (zs.getD i 0)))
    (hm : zs.length ≤ maxLen) (hw : wd = 1 ∨ wd = 2 ∨ wd = 4) (hk : k + wd ≤ zs.length) :
    Calls Tryd.prog 43 #[.slice (some ⟨b, off, none⟩) zs.length cap, .int .i64 k, .int .i64 wd] w fun e w' => e = .returned (.tuple #[.int .u32 (partN zs k wd), .int .i64 0]) ∧ w' = w := by
  have hk0 : ¬ ((k : Int) < 0) := by omega
  unfold maxLen at hm
  rcases hw with rfl | rfl | rfl
  · go_enter Tryd.func43, Tryd.ntmps43
    go_wp2
    go_loop [8, 9] (fun n i => ∃ j m : Nat, j + m ≤ 1 ∧ 1 ≤ j + m ∧ i = .int .i64 ((j : Int) - 1) ∧ n = .int .u32 (partN zs (k + j) m)) (fun _ i => (intOf i + 1).toNat)
    case atStart => exact ⟨1, 0, Nat.le_refl _, Nat.le_refl _, rfl, by simp [partN, leN]⟩
    case round =>
      obtain ⟨j, m, hj, hjm, rfl, rfl⟩ := hrel
      by_cases hlt : j = 0
      · subst hlt
        go_wp2
        go_ret2
        have e : m = 1 := by omega
        subst e
        exact ⟨rfl, rfl⟩
      · obtain ⟨i, rfl⟩ : ∃ i : Nat, j = i + 1 := ⟨j - 1, by omega⟩
        have hcell := hc (k + i) (by omega)
        go_wp2
        go_round
        case rel => exact ⟨i, m + 1, by omega, by omega, by go_num, by rw [← partN_down zs hz (k + i) m (by omega) (by omega) (by omega)]; rfl⟩
        case measure => simp [intOf]
  · go_enter Tryd.func43, Tryd.ntmps43
    go_wp2
    go_loop [8, 9] (fun n i => ∃ j m : Nat, j + m ≤ 2 ∧ 2 ≤ j + m ∧ i = .int .i64 ((j : Int) - 1) ∧ n = .int .u32 (partN zs (k + j) m)) (fun _ i => (intOf i + 1).toNat)
    case atStart => exact ⟨2, 0, Nat.le_refl _, Nat.le_refl _, rfl, by simp [partN, leN]⟩
    case round =>
      obtain ⟨j, m, hj, hjm, rfl, rfl⟩ := hrel
      by_cases hlt : j = 0
      · subst hlt
        go_wp2
        go_ret2
        have e : m = 2 := by omega
        subst e
        exact ⟨rfl, rfl⟩
      · obtain ⟨i, rfl⟩ : ∃ i : Nat, j = i + 1 := ⟨j - 1, by omega⟩
        have hcell := hc (k + i) (by omega)
        go_wp2
        go_round
        case rel => exact ⟨i, m + 1, by omega, by omega, by go_num, by rw [← partN_down zs hz (k + i) m (by omega) (by omega) (by omega)]; rfl⟩
        case measure => simp [intOf]
  · go_enter Tryd.func43, Tryd.ntmps43
    go_wp2
    go_loop [8, 9] (fun n i => ∃ j m : Nat, j + m ≤ 4 ∧ 4 ≤ j + m ∧ i = .int .i64 ((j : Int) - 1) ∧ n = .int .u32 (partN zs (k + j) m)) (fun _ i => (intOf i + 1).toNat)
    case atStart => exact ⟨4, 0, Nat.le_refl _, Nat.le_refl _, rfl, by simp [partN, leN]⟩
    case round =>
      obtain ⟨j, m, hj, hjm, rfl, rfl⟩ := hrel
      by_cases hlt : j = 0
      · subst hlt
        go_wp2
        go_ret2
        have e : m = 4 := by omega
        subst e
        exact ⟨rfl, rfl⟩
      · obtain ⟨i, rfl⟩ : ∃ i : Nat, j = i + 1 := ⟨j - 1, by omega⟩
        have hcell := hc (k + i) (by omega)
        go_wp2
        go_round
        case rel => exact ⟨i, m + 1, by omega, by omega, by go_num, by rw [← partN_down zs hz (k + i) m (by omega) (by omega) (by omega)]; rfl⟩
        case measure => simp [intOf]

end Go.Proofs.YthboapfbgdcdoaaDoor
