/- Contracts of octet.GetText and of the document's GetText: what they answer of bytes that lie in memory. -/
import Derived.Test.YtmndccbeddaphaaGreatDoorRows
import Derived.WalkKit
import Derived.ProofKit
import Derived.OpenShut
import Derived.ShutString
import Derived.ChangeOld
import Derived.Below
import Derived.Test.YtmndccbeddaphaaGreatDoorOcMath
import Derived.Laws.BytesArg
namespace Go.Proofs.YtmndccbeddaphaaGreatDoor.O
open Go.ChangeShapes Go.WideShapes Go.ChangeAt Go.RowKit
set_option linter.unusedVariables false
def isW (n : Int) : Bool := n == 1 || n == 2 || n == 4
theorem isWidth_any (n : Int) (w : World) :
    Calls Tryz.prog 168 #[.int .i64 n] w fun e w' => e = .returned (.bool (isW n)) ∧ w' = w := by
  by_cases h1 : n = 1
  · subst h1
    go_enter Tryz.func168, Tryz.ntmps168
    go_wp2
    go_ret
    exact ⟨rfl, rfl⟩
  · by_cases h2 : n = 2
    · subst h2
      go_enter Tryz.func168, Tryz.ntmps168
      go_wp2
      go_ret
      exact ⟨rfl, rfl⟩
    · by_cases h4 : n = 4
      · subst h4
        go_enter Tryz.func168, Tryz.ntmps168
        go_wp2
        go_ret
        exact ⟨rfl, rfl⟩
      · have e1 : (n == 1) = false := by simpa using h1
        have e2 : (n == 2) = false := by simpa using h2
        have e4 : (n == 4) = false := by simpa using h4
        have hw : isW n = false := by simp [isW, e1, e2, e4]
        rw [hw]
        go_enter Tryz.func168, Tryz.ntmps168
        go_wp2
        go_ret
        exact ⟨rfl, rfl⟩
def sgn (n m : Int) : Int := if m = 1 then wrap32 (IntKind.i8.wrap n) else if m = 2 then wrap32 (IntKind.i16.wrap n) else if m = 4 then wrap32 n else 0
theorem signed_any (n m : Int) (w : World) :
    Calls Tryz.prog 139 #[.int .u32 n, .int .i64 m] w fun e w' => e = .returned (.int .i32 (sgn n m)) ∧ w' = w := by
  by_cases h1 : m = 1
  · subst h1
    go_enter Tryz.func139, Tryz.ntmps139
    go_wp2
    go_ret
    exact ⟨rfl, rfl⟩
  · have e1 : (m == 1) = false := by simpa using h1
    by_cases h2 : m = 2
    · subst h2
      go_enter Tryz.func139, Tryz.ntmps139
      go_wp2
      go_ret
      exact ⟨rfl, rfl⟩
    · have e2 : (m == 2) = false := by simpa using h2
      by_cases h4 : m = 4
      · subst h4
        go_enter Tryz.func139, Tryz.ntmps139
        go_wp2
        go_ret
        exact ⟨rfl, rfl⟩
      · have e4 : (m == 4) = false := by simpa using h4
        have hs : sgn n m = 0 := by simp [sgn, h1, h2, h4]
        rw [hs]
        go_enter Tryz.func139, Tryz.ntmps139
        go_wp2
        go_ret
        exact ⟨rfl, rfl⟩
def fitsB (n m : Int) : Bool := if m = 1 then decide (-128 ≤ n ∧ n ≤ 127) else if m = 2 then decide (-32768 ≤ n ∧ n ≤ 32767) else if m = 4 then true else false
theorem i8wrap (n : Int) : IntKind.i8.wrap n = (n + 128) % 256 - 128 := by
  simp only [IntKind.wrap, IntKind.bits, IntKind.signed]
  simp
  split <;> omega
theorem i16wrap (n : Int) : IntKind.i16.wrap n = (n + 32768) % 65536 - 32768 := by
  simp only [IntKind.wrap, IntKind.bits, IntKind.signed]
  simp
  split <;> omega
theorem sgn_fits (n m : Int) (h : -2147483648 ≤ n ∧ n ≤ 2147483647) : (isW m && (sgn (n % 4294967296) m == n)) = fitsB n m := by
  by_cases h1 : m = 1
  · subst h1
    rw [Bool.eq_iff_iff]
    simp [isW, sgn, fitsB, wrap32, i8wrap]
    omega
  · by_cases h2 : m = 2
    · subst h2
      rw [Bool.eq_iff_iff]
      simp [isW, sgn, fitsB, wrap32, i16wrap]
      omega
    · by_cases h4 : m = 4
      · subst h4
        rw [Bool.eq_iff_iff]
        simp [isW, sgn, fitsB, wrap32]
        omega
      · simp [isW, fitsB, h1, h2, h4]
theorem refFits_any (n m : Int) (w : World) :
    Calls Tryz.prog 121 #[.int .i32 n, .int .i64 m] w fun e w' => e = .returned (.bool (fitsB n m)) ∧ w' = w := by
  by_cases h1 : m = 1
  · subst h1
    by_cases a : -128 ≤ n
    · by_cases b : n ≤ 127
      · have hf : fitsB n 1 = true := by simp [fitsB, a, b]
        rw [hf]
        go_enter Tryz.func121, Tryz.ntmps121
        go_wp2
        go_ret
        exact ⟨rfl, rfl⟩
      · have hf : fitsB n 1 = false := by simp [fitsB, b]
        rw [hf]
        go_enter Tryz.func121, Tryz.ntmps121
        go_wp2
        go_ret
        exact ⟨rfl, rfl⟩
    · have hf : fitsB n 1 = false := by simp [fitsB, a]
      rw [hf]
      go_enter Tryz.func121, Tryz.ntmps121
      go_wp2
      go_ret
      exact ⟨rfl, rfl⟩
  · have e1 : (m == 1) = false := by simpa using h1
    by_cases h2 : m = 2
    · subst h2
      by_cases a : -32768 ≤ n
      · by_cases b : n ≤ 32767
        · have hf : fitsB n 2 = true := by simp [fitsB, a, b]
          rw [hf]
          go_enter Tryz.func121, Tryz.ntmps121
          go_wp2
          go_ret
          exact ⟨rfl, rfl⟩
        · have hf : fitsB n 2 = false := by simp [fitsB, b]
          rw [hf]
          go_enter Tryz.func121, Tryz.ntmps121
          go_wp2
          go_ret
          exact ⟨rfl, rfl⟩
      · have hf : fitsB n 2 = false := by simp [fitsB, a]
        rw [hf]
        go_enter Tryz.func121, Tryz.ntmps121
        go_wp2
        go_ret
        exact ⟨rfl, rfl⟩
    · have e2 : (m == 2) = false := by simpa using h2
      by_cases h4 : m = 4
      · subst h4
        go_enter Tryz.func121, Tryz.ntmps121
        go_wp2
        go_ret
        exact ⟨rfl, rfl⟩
      · have e4 : (m == 4) = false := by simpa using h4
        have hs : fitsB n m = false := by simp [fitsB, h1, h2, h4]
        rw [hs]
        go_enter Tryz.func121, Tryz.ntmps121
        go_wp2
        go_ret
        exact ⟨rfl, rfl⟩
end Go.Proofs.YtmndccbeddaphaaGreatDoor.O
namespace Go.Proofs.YtmndccbeddaphaaGreatDoor.O
open Go.ChangeShapes Go.WideShapes Go.ChangeAt Go.RowKit
set_option linter.unusedVariables false
def Lies (w : World) (a : Option Addr) (zs : List Int) : Prop :=
  AreBytes zs ∧ (zs = [] ∨ ∃ b off, a = some ⟨b, off, none⟩ ∧ ∀ i, i < zs.length → w.cell? ⟨b, off + i, none⟩ = some (.int .u8 (zs.getD i 0)))
def getE (zs : List Int) (at' width : Int) : Int :=
  if isW width = false ∨ at' < 0 ∨ (zs.length : Int) < at' then 1 else if (zs.length : Int) - at' < width then 10 else 0
def getN (zs : List Int) (at' width : Int) : Int :=
  if getE zs at' width = 0 then leN ((zs.drop at'.toNat).take width.toNat) else 0
theorem isW_cases {n : Int} (h : isW n = true) : n = 1 ∨ n = 2 ∨ n = 4 := by
  simp [isW] at h
  omega
theorem get_ok (b off k wd cap : Nat) (zs : List Int) (w : World) (hz : AreBytes zs) (hc : ∀ i, i < zs.length → w.cell? ⟨b, off + i, none⟩ = some (.int .u8 (zs.getD i 0)))
    (hm : zs.length ≤ maxLen) (hw : wd = 1 ∨ wd = 2 ∨ wd = 4) (hk : k + wd ≤ zs.length) :
    Calls Tryz.prog 137 #[.slice (some ⟨b, off, none⟩) zs.length cap, .int .i64 k, .int .i64 wd] w fun e w' => e = .returned (.tuple #[.int .u32 (leN ((zs.drop k).take wd)), .int .i64 0]) ∧ w' = w := by
  have hW : isW (wd : Int) = true := by rcases hw with rfl | rfl | rfl <;> rfl
  have hw4 : wd ≤ 4 := by omega
  unfold maxLen at hm
  go_enter Tryz.func137, Tryz.ntmps137
  go_wp2_with (first | (go_at_call 168; refine (isWidth_any _ _).mono ?_; rintro e w' ⟨rfl, rfl⟩))
  go_loop [8, 30] (fun n i => ∃ j : Nat, j ≤ wd ∧ i = .int .i64 j ∧ n = .int .u32 (leN ((zs.drop k).take j))) (fun _ i => wd - (intOf i).toNat)
  case atStart => exact ⟨0, Nat.zero_le _, rfl, rfl⟩
  case round =>
    obtain ⟨j, hj, rfl, rfl⟩ := hrel
    by_cases hlt : j < wd
    · have hcell := hc (k + j) (by omega)
      go_wp2
      go_round
      case rel => exact ⟨j + 1, by omega, by go_num, by rw [leN_step zs hz k j (by omega) (by omega)]⟩
      case measure => simp [intOf]; omega
    · go_wp2
      go_ret2
      have e : j = wd := by omega
      subst e
      exact ⟨rfl, rfl⟩
theorem get_any (a : Option Addr) (cap : Nat) (zs : List Int) (at' width : Int) (w : World) (hl : Lies w a zs) (hm : zs.length ≤ maxLen) (ha : -9223372036854775808 ≤ at' ∧ at' ≤ 9223372036854775807) :
    Calls Tryz.prog 137 #[.slice a zs.length cap, .int .i64 at', .int .i64 width] w fun e w' => e = .returned (.tuple #[.int .u32 (getN zs at' width), .int .i64 (getE zs at' width)]) ∧ w' = w := by
  by_cases h1 : isW width = false
  · have e : getE zs at' width = 1 := by simp [getE, h1]
    have e' : getN zs at' width = 0 := by simp [getN, e]
    rw [e, e']
    clear e e'
    unfold maxLen at hm
    go_enter Tryz.func137, Tryz.ntmps137
    go_wp2_with (first | (go_at_call 168; refine (isWidth_any _ _).mono ?_; rintro e w' ⟨rfl, rfl⟩))
    go_ret2
    exact ⟨rfl, rfl⟩
  · replace h1 : isW width = true := by simpa using h1
    by_cases h2 : at' < 0
    · have e : getE zs at' width = 1 := by simp [getE, h2]
      have e' : getN zs at' width = 0 := by simp [getN, e]
      rw [e, e']
      clear e e'
      unfold maxLen at hm
      go_enter Tryz.func137, Tryz.ntmps137
      go_wp2_with (first | (go_at_call 168; refine (isWidth_any _ _).mono ?_; rintro e w' ⟨rfl, rfl⟩))
      go_ret2
      exact ⟨rfl, rfl⟩
    · by_cases h3 : (zs.length : Int) < at'
      · have e : getE zs at' width = 1 := by simp [getE, h3]
        have e' : getN zs at' width = 0 := by simp [getN, e]
        rw [e, e']
        clear e e'
        unfold maxLen at hm
        go_enter Tryz.func137, Tryz.ntmps137
        go_wp2_with (first | (go_at_call 168; refine (isWidth_any _ _).mono ?_; rintro e w' ⟨rfl, rfl⟩))
        go_ret2
        exact ⟨rfl, rfl⟩
      · obtain ⟨k, rfl⟩ : ∃ k : Nat, at' = k := ⟨at'.toNat, by omega⟩
        by_cases h4 : (zs.length : Int) - k < width
        · have e : getE zs k width = 10 := by simp only [getE]; rw [if_neg (by simp [h1]; omega), if_pos h4]
          have e' : getN zs k width = 0 := by simp [getN, e]
          rw [e, e']
          clear e e'
          unfold maxLen at hm
          go_enter Tryz.func137, Tryz.ntmps137
          go_wp2_with (first | (go_at_call 168; refine (isWidth_any _ _).mono ?_; rintro e w' ⟨rfl, rfl⟩))
          go_ret2
          exact ⟨rfl, rfl⟩
        · have e : getE zs k width = 0 := by simp only [getE]; rw [if_neg (by simp [h1]; omega), if_neg h4]
          have hwc := isW_cases h1
          obtain ⟨wd, rfl⟩ : ∃ wd : Nat, width = wd := ⟨width.toNat, by omega⟩
          have e' : getN zs k wd = leN ((zs.drop k).take wd) := by simp [getN, e]
          rw [e, e']
          obtain ⟨hz, hb⟩ := hl
          rcases hb with rfl | ⟨b, off, rfl, hc⟩
          · simp at h4; omega
          · exact get_ok b off k wd cap zs w hz hc hm (by omega) (by omega)
theorem refGet_ok (b off k wd cap : Nat) (zs : List Int) (w : World) (hz : AreBytes zs) (hc : ∀ i, i < zs.length → w.cell? ⟨b, off + i, none⟩ = some (.int .u8 (zs.getD i 0)))
    (hm : zs.length ≤ maxLen) (hw : wd = 1 ∨ wd = 2 ∨ wd = 4) (hk : k + wd ≤ zs.length) :
    Calls Tryz.prog 89 #[.slice (some ⟨b, off, none⟩) zs.length cap, .int .i64 k, .int .i64 wd] w fun e w' => e = .returned (.tuple #[.int .u32 (partN zs k wd), .int .i64 0]) ∧ w' = w := by
  have hk0 : ¬ ((k : Int) < 0) := by omega
  unfold maxLen at hm
  rcases hw with rfl | rfl | rfl
  · go_enter Tryz.func89, Tryz.ntmps89
    go_wp2
    go_loop [8, 9] (fun n i => ∃ j m : Nat, j + m ≤ 1 ∧ 1 ≤ j + m ∧ i = .int .i64 ((j : Int) - 1) ∧ n = .int .u32 (partN zs (k + j) m)) (fun _ i => (intOf i + 1).toNat)
    case atStart => exact ⟨1, 0, Nat.le_refl _, Nat.le_refl _, rfl, by simp [partN, leN]⟩
    case round =>
      obtain ⟨j, m, hj, hjm, rfl, rfl⟩ := hrel
      by_cases hlt : j = 0
      · subst hlt
        go_wp2
        go_ret2
        have e : m = 1 := by omega
        subst e
        exact ⟨rfl, rfl⟩
      · obtain ⟨i, rfl⟩ : ∃ i : Nat, j = i + 1 := ⟨j - 1, by omega⟩
        have hcell := hc (k + i) (by omega)
        go_wp2
        go_round
        case rel => exact ⟨i, m + 1, by omega, by omega, by go_num, by rw [← partN_down zs hz (k + i) m (by omega) (by omega) (by omega)]; rfl⟩
        case measure => simp [intOf]
  · go_enter Tryz.func89, Tryz.ntmps89
    go_wp2
    go_loop [8, 9] (fun n i => ∃ j m : Nat, j + m ≤ 2 ∧ 2 ≤ j + m ∧ i = .int .i64 ((j : Int) - 1) ∧ n = .int .u32 (partN zs (k + j) m)) (fun _ i => (intOf i + 1).toNat)
    case atStart => exact ⟨2, 0, Nat.le_refl _, Nat.le_refl _, rfl, by simp [partN, leN]⟩
    case round =>
      obtain ⟨j, m, hj, hjm, rfl, rfl⟩ := hrel
      by_cases hlt : j = 0
      · subst hlt
        go_wp2
        go_ret2
        have e : m = 2 := by omega
        subst e
        exact ⟨rfl, rfl⟩
      · obtain ⟨i, rfl⟩ : ∃ i : Nat, j = i + 1 := ⟨j - 1, by omega⟩
        have hcell := hc (k + i) (by omega)
        go_wp2
        go_round
        case rel => exact ⟨i, m + 1, by omega, by omega, by go_num, by rw [← partN_down zs hz (k + i) m (by omega) (by omega) (by omega)]; rfl⟩
        case measure => simp [intOf]
  · go_enter Tryz.func89, Tryz.ntmps89
    go_wp2
    go_loop [8, 9] (fun n i => ∃ j m : Nat, j + m ≤ 4 ∧ 4 ≤ j + m ∧ i = .int .i64 ((j : Int) - 1) ∧ n = .int .u32 (partN zs (k + j) m)) (fun _ i => (intOf i + 1).toNat)
    case atStart => exact ⟨4, 0, Nat.le_refl _, Nat.le_refl _, rfl, by simp [partN, leN]⟩
    case round =>
      obtain ⟨j, m, hj, hjm, rfl, rfl⟩ := hrel
      by_cases hlt : j = 0
      · subst hlt
        go_wp2
        go_ret2
        have e : m = 4 := by omega
        subst e
        exact ⟨rfl, rfl⟩
      · obtain ⟨i, rfl⟩ : ∃ i : Nat, j = i + 1 := ⟨j - 1, by omega⟩
        have hcell := hc (k + i) (by omega)
        go_wp2
        go_round
        case rel => exact ⟨i, m + 1, by omega, by omega, by go_num, by rw [← partN_down zs hz (k + i) m (by omega) (by omega) (by omega)]; rfl⟩
        case measure => simp [intOf]
end Go.Proofs.YtmndccbeddaphaaGreatDoor.O
namespace Go.Proofs.YtmndccbeddaphaaGreatDoor.O
open Go.ChangeShapes Go.WideShapes Go.ChangeAt Go.RowKit
set_option linter.unusedVariables false
def getTE (zs : List Int) (at' most : Int) : Int :=
  if getE zs at' 2 = 0 then (if most < getN zs at' 2 then 3 else if (zs.length : Int) - (at' + 2) < getN zs at' 2 then 10 else 0) else getE zs at' 2
def getTo (zs : List Int) (at' most : Int) : Int := if getTE zs at' most = 0 then at' + 2 + getN zs at' 2 else 0
def getTS (zs : List Int) (at' most : Int) : ByteArray :=
  if getTE zs at' most = 0 then strOfNums ((zs.drop (at'.toNat + 2)).take (getN zs at' 2).toNat) else ByteArray.empty
theorem refGet_any (a : Option Addr) (cap : Nat) (zs : List Int) (at' width : Int) (w : World) (hl : Lies w a zs) (hm : zs.length ≤ maxLen) (ha : -9223372036854775808 ≤ at' ∧ at' ≤ 9223372036854775807) :
    Calls Tryz.prog 89 #[.slice a zs.length cap, .int .i64 at', .int .i64 width] w fun e w' => e = .returned (.tuple #[.int .u32 (getN zs at' width), .int .i64 (getE zs at' width)]) ∧ w' = w := by
  by_cases h1 : isW width = false
  · have e : getE zs at' width = 1 := by simp [getE, h1]
    have e' : getN zs at' width = 0 := by simp [getN, e]
    rw [e, e']
    clear e e'
    have hne : (width == 1) = false ∧ (width == 2) = false ∧ (width == 4) = false := by simp [isW] at h1; simp; omega
    obtain ⟨n1, n2, n4⟩ := hne
    have m1 : (width != 1) = true := by simp [bne, n1]
    have m2 : (width != 2) = true := by simp [bne, n2]
    have m4 : (width != 4) = true := by simp [bne, n4]
    unfold maxLen at hm
    go_enter Tryz.func89, Tryz.ntmps89
    go_wp2
    go_ret2
    exact ⟨rfl, rfl⟩
  · replace h1 : isW width = true := by simpa using h1
    by_cases h2 : at' < 0
    · have e : getE zs at' width = 1 := by simp [getE, h2]
      have e' : getN zs at' width = 0 := by simp [getN, e]
      rw [e, e']
      clear e e'
      unfold maxLen at hm
      rcases isW_cases h1 with rfl | rfl | rfl
      all_goals
        go_enter Tryz.func89, Tryz.ntmps89
        go_wp2
        go_ret2
        exact ⟨rfl, rfl⟩
    · by_cases h3 : (zs.length : Int) < at'
      · have e : getE zs at' width = 1 := by simp [getE, h3]
        have e' : getN zs at' width = 0 := by simp [getN, e]
        rw [e, e']
        clear e e'
        unfold maxLen at hm
        rcases isW_cases h1 with rfl | rfl | rfl
        all_goals
          go_enter Tryz.func89, Tryz.ntmps89
          go_wp2
          go_ret2
          exact ⟨rfl, rfl⟩
      · obtain ⟨k, rfl⟩ : ∃ k : Nat, at' = k := ⟨at'.toNat, by omega⟩
        by_cases h4 : (zs.length : Int) - k < width
        · have e : getE zs k width = 10 := by simp only [getE]; rw [if_neg (by simp [h1]; omega), if_pos h4]
          have e' : getN zs k width = 0 := by simp [getN, e]
          rw [e, e']
          clear e e'
          unfold maxLen at hm
          rcases isW_cases h1 with rfl | rfl | rfl
          all_goals
            go_enter Tryz.func89, Tryz.ntmps89
            go_wp2
            go_ret2
            exact ⟨rfl, rfl⟩
        · have e : getE zs k width = 0 := by simp only [getE]; rw [if_neg (by simp [h1]; omega), if_neg h4]
          have hwc := isW_cases h1
          obtain ⟨wd, rfl⟩ : ∃ wd : Nat, width = wd := ⟨width.toNat, by omega⟩
          have e' : getN zs k wd = partN zs k wd := by simp [getN, e, partN]
          rw [e, e']
          obtain ⟨hz, hb⟩ := hl
          rcases hb with rfl | ⟨b, off, rfl, hc⟩
          · simp at h4; omega
          · exact refGet_ok b off k wd cap zs w hz hc hm (by omega) (by omega)
theorem convert_none (a : Option Addr) (c : Nat) (w : World) : (convert 22 9 (.slice a 0 c)).run Tryz.prog w = .ok (.string ByteArray.empty) w := by
  cases a with
  | none => exact run_convert_bytes_nil (P := Tryz.prog) w 22 5 Tryz.underlying22 Tryz.underlying5 0 c 9 Tryz.underlying9
  | some a =>
    have hl : (loadCells a 0).run Tryz.prog w = .ok ((([] : List Int).map (Value.int .u8)).toArray) w := by
      have := run_loadCells_list (P := Tryz.prog) w a (([] : List Int).map (Value.int .u8)) (fun j v hj => by simp at hj)
      simpa using this
    rw [run_convert_bytes_string w 22 9 5 _ 0 c Tryz.underlying22 Tryz.underlying5 Tryz.underlying9, run_bytesToString w _ 0 c [] hl]
    rfl
theorem getN_bd (zs : List Int) (hz : AreBytes zs) (at' : Int) : 0 ≤ getN zs at' 2 ∧ getN zs at' 2 ≤ 65535 := by
  by_cases h : getE zs at' 2 = 0
  · simp only [getN, h, if_true]
    have hb := leN_bd ((zs.drop at'.toNat).take (2 : Int).toNat) (areBytes_take _ (areBytes_drop _ hz _) _)
    have hl : ((zs.drop at'.toNat).take (2 : Int).toNat).length ≤ 2 := List.length_take_le _ _
    have hp : (256 : Int) ^ ((zs.drop at'.toNat).take (2 : Int).toNat).length ≤ 65536 := by
      have : ((zs.drop at'.toNat).take (2 : Int).toNat).length = 0 ∨ ((zs.drop at'.toNat).take (2 : Int).toNat).length = 1 ∨ ((zs.drop at'.toNat).take (2 : Int).toNat).length = 2 := by omega
      rcases this with h | h | h <;> rw [h] <;> decide
    omega
  · simp [getN, h]
theorem getText_ok0 (a : Option Addr) (k cap : Nat) (zs : List Int) (most : Int) (w : World) (hl : Lies w a zs) (hm : zs.length ≤ maxLen) (hcap : zs.length ≤ cap)
    (he : getE zs k 2 = 0) (hn : getN zs k 2 = 0) (hk : k + 2 ≤ zs.length) (hmo : 0 ≤ most) :
    Calls Tryz.prog 140 #[.slice a zs.length cap, .int .i64 k, .int .i64 most] w fun e w' => e = .returned (.tuple #[.string ByteArray.empty, .int .i64 ((k : Int) + 2), .int .i64 0]) ∧ w' = w := by
  have hg := get_any a cap zs k 2 w hl hm (by unfold maxLen at hm; omega)
  rw [he, hn] at hg
  have kc := convert_none
  unfold maxLen at hm
  go_enter Tryz.func140, Tryz.ntmps140
  go_wp2_with (first | (go_at_call 137; refine hg.mono ?_; rintro e w' ⟨rfl, rfl⟩))
  all_goals
    go_ret3
    exact ⟨rfl, rfl⟩
theorem getText_ok1 (b off k n cap : Nat) (zs : List Int) (most : Int) (w : World) (hz : AreBytes zs) (hc : ∀ i, i < zs.length → w.cell? ⟨b, off + i, none⟩ = some (.int .u8 (zs.getD i 0))) (hm : zs.length ≤ maxLen) (hcap : zs.length ≤ cap)
    (he : getE zs k 2 = 0) (hn : getN zs k 2 = n) (h0 : 0 < n) (hk : k + 2 + n ≤ zs.length) (hmo : (n : Int) ≤ most) (h64 : n ≤ 65535) :
    Calls Tryz.prog 140 #[.slice (some ⟨b, off, none⟩) zs.length cap, .int .i64 k, .int .i64 most] w fun e w' => e = .returned (.tuple #[.string (strOfNums ((zs.drop (k + 2)).take n)), .int .i64 ((k : Int) + 2 + n), .int .i64 0]) ∧ w' = w := by
  have hg := get_any (some ⟨b, off, none⟩) cap zs k 2 w ⟨hz, .inr ⟨b, off, rfl, hc⟩⟩ hm (by unfold maxLen at hm; omega)
  rw [he, hn] at hg
  have kc := fun cp => run_convert_bytes_arg (P := Tryz.prog) w 22 5 Tryz.underlying22 Tryz.underlying5 b (off + (k + 2)) n cp ((zs.drop (k + 2)).take n) (by simp; omega)
    (fun i hi => by rw [Nat.add_assoc, hc (k + 2 + i) (by omega)]; simp [List.getElem?_take_of_lt hi]) 9 Tryz.underlying9
  unfold maxLen at hm
  clear hc hz
  go_enter Tryz.func140, Tryz.ntmps140
  go_wp2_with (first | (go_at_call 137; refine hg.mono ?_; rintro e w' ⟨rfl, rfl⟩))
  go_ret3
  exact ⟨rfl, rfl⟩
theorem getText_any (a : Option Addr) (cap : Nat) (zs : List Int) (at' most : Int) (w : World) (hl : Lies w a zs) (hm : zs.length ≤ maxLen) (hcap : zs.length ≤ cap) (ha : -9223372036854775808 ≤ at' ∧ at' ≤ 9223372036854775807) :
    Calls Tryz.prog 140 #[.slice a zs.length cap, .int .i64 at', .int .i64 most] w fun e w' => e = .returned (.tuple #[.string (getTS zs at' most), .int .i64 (getTo zs at' most), .int .i64 (getTE zs at' most)]) ∧ w' = w := by
  by_cases he : getE zs at' 2 = 0
  · have hk : 0 ≤ at' ∧ at' + 2 ≤ zs.length := by
      simp only [getE] at he
      split at he
      · omega
      · split at he <;> omega
    obtain ⟨k, rfl⟩ : ∃ k : Nat, at' = k := ⟨at'.toNat, by omega⟩
    have hb := getN_bd zs hl.1 k
    obtain ⟨n, hn⟩ : ∃ n : Nat, getN zs k 2 = n := ⟨(getN zs k 2).toNat, by omega⟩
    rw [hn] at hb
    by_cases h1 : most < n
    · have e1 : getTE zs k most = 3 := by simp [getTE, he, hn, h1]
      have e2 : getTS zs k most = ByteArray.empty := by simp [getTS, e1]
      have e3 : getTo zs k most = 0 := by simp [getTo, e1]
      rw [e1, e2, e3]
      have hg := get_any a cap zs k 2 w hl hm ha
      rw [he, hn] at hg
      clear e1 e2 e3 he hn
      unfold maxLen at hm
      go_enter Tryz.func140, Tryz.ntmps140
      go_wp2_with (first | (go_at_call 137; refine hg.mono ?_; rintro e w' ⟨rfl, rfl⟩))
      go_ret3
      exact ⟨rfl, rfl⟩
    · by_cases h2 : (zs.length : Int) - (k + 2) < n
      · have e1 : getTE zs k most = 10 := by simp only [getTE, he, hn, if_true, if_neg h1, if_pos h2]
        have e2 : getTS zs k most = ByteArray.empty := by simp [getTS, e1]
        have e3 : getTo zs k most = 0 := by simp [getTo, e1]
        rw [e1, e2, e3]
        have hg := get_any a cap zs k 2 w hl hm ha
        rw [he, hn] at hg
        clear e1 e2 e3 he hn
        unfold maxLen at hm
        have h2' : (zs.length : Int) - k - 2 < n := by omega
        go_enter Tryz.func140, Tryz.ntmps140
        go_wp2_with (first | (go_at_call 137; refine hg.mono ?_; rintro e w' ⟨rfl, rfl⟩))
        go_ret3
        exact ⟨rfl, rfl⟩
      · have e1 : getTE zs k most = 0 := by simp only [getTE, he, hn, if_true, if_neg h1, if_neg h2]
        have e2 : getTS zs k most = strOfNums ((zs.drop (k + 2)).take n) := by simp [getTS, e1, hn]
        have e3 : getTo zs k most = k + 2 + n := by simp [getTo, e1, hn]
        rw [e1, e2, e3]
        by_cases h0 : n = 0
        · subst h0
          have := getText_ok0 a k cap zs most w hl hm hcap he hn (by omega) (by omega)
          refine this.mono ?_
          rintro e w' ⟨rfl, rfl⟩
          exact ⟨by simp [strOfNums, ByteArray.empty, ByteArray.emptyWithCapacity]; rfl, rfl⟩
        · obtain ⟨hz, hb'⟩ := hl
          rcases hb' with rfl | ⟨b, off, rfl, hc⟩
          · simp at hk; omega
          · exact getText_ok1 b off k n cap zs most w hz hc hm hcap he hn (by omega) (by omega) (by omega) (by omega)
  · have e1 : getTE zs at' most = getE zs at' 2 := by simp [getTE, he]
    have e2 : getTS zs at' most = ByteArray.empty := by simp [getTS, e1, he]
    have e3 : getTo zs at' most = 0 := by simp [getTo, e1, he]
    rw [e1, e2, e3]
    have hg := get_any a cap zs at' 2 w hl hm ha
    have hne : (getE zs at' 2 == 0) = false := by simpa using he
    have hne' : (getE zs at' 2 != 0) = true := by simp [bne, hne]
    clear e1 e2 e3 he
    unfold maxLen at hm
    go_enter Tryz.func140, Tryz.ntmps140
    go_wp2_with (first | (go_at_call 137; refine hg.mono ?_; rintro e w' ⟨rfl, rfl⟩))
    go_ret3
    exact ⟨rfl, rfl⟩
theorem refGetText_ok0 (a : Option Addr) (k cap : Nat) (zs : List Int) (most : Int) (w : World) (hl : Lies w a zs) (hm : zs.length ≤ maxLen) (hcap : zs.length ≤ cap)
    (he : getE zs k 2 = 0) (hn : getN zs k 2 = 0) (hk : k + 2 ≤ zs.length) (hmo : 0 ≤ most) :
    Calls Tryz.prog 90 #[.slice a zs.length cap, .int .i64 k, .int .i64 most] w fun e w' => e = .returned (.tuple #[.string ByteArray.empty, .int .i64 ((k : Int) + 2), .int .i64 0]) ∧ w' = w := by
  have hg := refGet_any a cap zs k 2 w hl hm (by unfold maxLen at hm; omega)
  rw [he, hn] at hg
  have kc := convert_none
  unfold maxLen at hm
  go_enter Tryz.func90, Tryz.ntmps90
  go_wp2_with (first | (go_at_call 89; refine hg.mono ?_; rintro e w' ⟨rfl, rfl⟩))
  all_goals
    go_ret3
    exact ⟨rfl, rfl⟩
theorem refGetText_ok1 (b off k n cap : Nat) (zs : List Int) (most : Int) (w : World) (hz : AreBytes zs) (hc : ∀ i, i < zs.length → w.cell? ⟨b, off + i, none⟩ = some (.int .u8 (zs.getD i 0))) (hm : zs.length ≤ maxLen) (hcap : zs.length ≤ cap)
    (he : getE zs k 2 = 0) (hn : getN zs k 2 = n) (h0 : 0 < n) (hk : k + 2 + n ≤ zs.length) (hmo : (n : Int) ≤ most) (h64 : n ≤ 65535) :
    Calls Tryz.prog 90 #[.slice (some ⟨b, off, none⟩) zs.length cap, .int .i64 k, .int .i64 most] w fun e w' => e = .returned (.tuple #[.string (strOfNums ((zs.drop (k + 2)).take n)), .int .i64 ((k : Int) + 2 + n), .int .i64 0]) ∧ w' = w := by
  have hg := refGet_any (some ⟨b, off, none⟩) cap zs k 2 w ⟨hz, .inr ⟨b, off, rfl, hc⟩⟩ hm (by unfold maxLen at hm; omega)
  rw [he, hn] at hg
  have kc := fun cp => run_convert_bytes_arg (P := Tryz.prog) w 22 5 Tryz.underlying22 Tryz.underlying5 b (off + (k + 2)) n cp ((zs.drop (k + 2)).take n) (by simp; omega)
    (fun i hi => by rw [Nat.add_assoc, hc (k + 2 + i) (by omega)]; simp [List.getElem?_take_of_lt hi]) 9 Tryz.underlying9
  unfold maxLen at hm
  clear hc hz
  go_enter Tryz.func90, Tryz.ntmps90
  go_wp2_with (first | (go_at_call 89; refine hg.mono ?_; rintro e w' ⟨rfl, rfl⟩))
  go_ret3
  exact ⟨rfl, rfl⟩
theorem refGetText_any (a : Option Addr) (cap : Nat) (zs : List Int) (at' most : Int) (w : World) (hl : Lies w a zs) (hm : zs.length ≤ maxLen) (hcap : zs.length ≤ cap) (ha : -9223372036854775808 ≤ at' ∧ at' ≤ 9223372036854775807) :
    Calls Tryz.prog 90 #[.slice a zs.length cap, .int .i64 at', .int .i64 most] w fun e w' => e = .returned (.tuple #[.string (getTS zs at' most), .int .i64 (getTo zs at' most), .int .i64 (getTE zs at' most)]) ∧ w' = w := by
  by_cases he : getE zs at' 2 = 0
  · have hk : 0 ≤ at' ∧ at' + 2 ≤ zs.length := by
      simp only [getE] at he
      split at he
      · omega
      · split at he <;> omega
    obtain ⟨k, rfl⟩ : ∃ k : Nat, at' = k := ⟨at'.toNat, by omega⟩
    have hb := getN_bd zs hl.1 k
    obtain ⟨n, hn⟩ : ∃ n : Nat, getN zs k 2 = n := ⟨(getN zs k 2).toNat, by omega⟩
    rw [hn] at hb
    by_cases h1 : most < n
    · have e1 : getTE zs k most = 3 := by simp [getTE, he, hn, h1]
      have e2 : getTS zs k most = ByteArray.empty := by simp [getTS, e1]
      have e3 : getTo zs k most = 0 := by simp [getTo, e1]
      rw [e1, e2, e3]
      have hg := refGet_any a cap zs k 2 w hl hm ha
      rw [he, hn] at hg
      clear e1 e2 e3 he hn
      unfold maxLen at hm
      go_enter Tryz.func90, Tryz.ntmps90
      go_wp2_with (first | (go_at_call 89; refine hg.mono ?_; rintro e w' ⟨rfl, rfl⟩))
      go_ret3
      exact ⟨rfl, rfl⟩
    · by_cases h2 : (zs.length : Int) - (k + 2) < n
      · have e1 : getTE zs k most = 10 := by simp only [getTE, he, hn, if_true, if_neg h1, if_pos h2]
        have e2 : getTS zs k most = ByteArray.empty := by simp [getTS, e1]
        have e3 : getTo zs k most = 0 := by simp [getTo, e1]
        rw [e1, e2, e3]
        have hg := refGet_any a cap zs k 2 w hl hm ha
        rw [he, hn] at hg
        clear e1 e2 e3 he hn
        unfold maxLen at hm
        have h2' : (zs.length : Int) - k - 2 < n := by omega
        go_enter Tryz.func90, Tryz.ntmps90
        go_wp2_with (first | (go_at_call 89; refine hg.mono ?_; rintro e w' ⟨rfl, rfl⟩))
        go_ret3
        exact ⟨rfl, rfl⟩
      · have e1 : getTE zs k most = 0 := by simp only [getTE, he, hn, if_true, if_neg h1, if_neg h2]
        have e2 : getTS zs k most = strOfNums ((zs.drop (k + 2)).take n) := by simp [getTS, e1, hn]
        have e3 : getTo zs k most = k + 2 + n := by simp [getTo, e1, hn]
        rw [e1, e2, e3]
        by_cases h0 : n = 0
        · subst h0
          have := refGetText_ok0 a k cap zs most w hl hm hcap he hn (by omega) (by omega)
          refine this.mono ?_
          rintro e w' ⟨rfl, rfl⟩
          exact ⟨by simp [strOfNums, ByteArray.empty, ByteArray.emptyWithCapacity]; rfl, rfl⟩
        · obtain ⟨hz, hb'⟩ := hl
          rcases hb' with rfl | ⟨b, off, rfl, hc⟩
          · simp at hk; omega
          · exact refGetText_ok1 b off k n cap zs most w hz hc hm hcap he hn (by omega) (by omega) (by omega) (by omega)
  · have e1 : getTE zs at' most = getE zs at' 2 := by simp [getTE, he]
    have e2 : getTS zs at' most = ByteArray.empty := by simp [getTS, e1, he]
    have e3 : getTo zs at' most = 0 := by simp [getTo, e1, he]
    rw [e1, e2, e3]
    have hg := refGet_any a cap zs at' 2 w hl hm ha
    have hne : (getE zs at' 2 == 0) = false := by simpa using he
    have hne' : (getE zs at' 2 != 0) = true := by simp [bne, hne]
    clear e1 e2 e3 he
    unfold maxLen at hm
    go_enter Tryz.func90, Tryz.ntmps90
    go_wp2_with (first | (go_at_call 89; refine hg.mono ?_; rintro e w' ⟨rfl, rfl⟩))
    go_ret3
    exact ⟨rfl, rfl⟩
end Go.Proofs.YtmndccbeddaphaaGreatDoor.O
