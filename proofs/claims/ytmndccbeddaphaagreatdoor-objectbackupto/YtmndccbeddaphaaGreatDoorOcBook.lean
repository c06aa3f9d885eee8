/- Contracts of the book of memory's Same, Roomy and Intact, over bytes. -/
import Derived.Test.YtmndccbeddaphaaGreatDoorRows
import Derived.WalkKit
import Derived.ProofKit
import Derived.OpenShut
import Derived.ShutString
import Derived.ChangeOld
import Derived.Below
import Derived.Laws.BitsAllLaws
import Derived.Deep.QuietTactic
import Derived.BigQuiet
import Derived.WalkSmall
import Derived.WalkSpells
import Derived.Laws.CopyOwn
/- Contracts of octet's small functions that only compute: isWidth, Signed, Fits, and the document's Signed and Fits. -/
namespace Go.Proofs.YtmndccbeddaphaaGreatDoor.O
open Go.ChangeShapes Go.WideShapes Go.ChangeAt Go.RowKit
set_option linter.unusedVariables false

def isW (n : Int) : Bool := n == 1 || n == 2 || n == 4

theorem isWidth_any (n : Int) (w : World) :
    Calls Tryz.prog 168 #[.int .i64 n] w fun e w' => e = .returned (.bool (isW n)) ∧ w' = w := by
  by_cases h1 : n = 1
  · subst h1
    go_enter Tryz.func168, Tryz.ntmps168
    go_wp2
    go_ret
    exact ⟨rfl, rfl⟩
  · by_cases h2 : n = 2
    · subst h2
      go_enter Tryz.func168, Tryz.ntmps168
      go_wp2
      go_ret
      exact ⟨rfl, rfl⟩
    · by_cases h4 : n = 4
      · subst h4
        go_enter Tryz.func168, Tryz.ntmps168
        go_wp2
        go_ret
        exact ⟨rfl, rfl⟩
      · have e1 : (n == 1) = false := by simpa using h1
        have e2 : (n == 2) = false := by simpa using h2
        have e4 : (n == 4) = false := by simpa using h4
        have hw : isW n = false := by simp [isW, e1, e2, e4]
        rw [hw]
        go_enter Tryz.func168, Tryz.ntmps168
        go_wp2
        go_ret
        exact ⟨rfl, rfl⟩


/-- the number with its sign that the lowest m bytes of n are -/
def sgn (n m : Int) : Int := if m = 1 then wrap32 (IntKind.i8.wrap n) else if m = 2 then wrap32 (IntKind.i16.wrap n) else if m = 4 then wrap32 n else 0

theorem signed_any (n m : Int) (w : World) :
    Calls Tryz.prog 139 #[.int .u32 n, .int .i64 m] w fun e w' => e = .returned (.int .i32 (sgn n m)) ∧ w' = w := by
  by_cases h1 : m = 1
  · subst h1
    go_enter Tryz.func139, Tryz.ntmps139
    go_wp2
    go_ret
    exact ⟨rfl, rfl⟩
  · have e1 : (m == 1) = false := by simpa using h1
    by_cases h2 : m = 2
    · subst h2
      go_enter Tryz.func139, Tryz.ntmps139
      go_wp2
      go_ret
      exact ⟨rfl, rfl⟩
    · have e2 : (m == 2) = false := by simpa using h2
      by_cases h4 : m = 4
      · subst h4
        go_enter Tryz.func139, Tryz.ntmps139
        go_wp2
        go_ret
        exact ⟨rfl, rfl⟩
      · have e4 : (m == 4) = false := by simpa using h4
        have hs : sgn n m = 0 := by simp [sgn, h1, h2, h4]
        rw [hs]
        go_enter Tryz.func139, Tryz.ntmps139
        go_wp2
        go_ret
        exact ⟨rfl, rfl⟩

/-- can m bytes hold n with its sign? (n: a number of four bytes) -/
def fitsB (n m : Int) : Bool := if m = 1 then decide (-128 ≤ n ∧ n ≤ 127) else if m = 2 then decide (-32768 ≤ n ∧ n ≤ 32767) else if m = 4 then true else false

theorem i8wrap (n : Int) : IntKind.i8.wrap n = (n + 128) % 256 - 128 := by
  simp only [IntKind.wrap, IntKind.bits, IntKind.signed]
  simp
  split <;> omega
theorem i16wrap (n : Int) : IntKind.i16.wrap n = (n + 32768) % 65536 - 32768 := by
  simp only [IntKind.wrap, IntKind.bits, IntKind.signed]
  simp
  split <;> omega

theorem sgn_fits (n m : Int) (h : -2147483648 ≤ n ∧ n ≤ 2147483647) : (isW m && (sgn (n % 4294967296) m == n)) = fitsB n m := by
  by_cases h1 : m = 1
  · subst h1
    rw [Bool.eq_iff_iff]
    simp [isW, sgn, fitsB, wrap32, i8wrap]
    omega
  · by_cases h2 : m = 2
    · subst h2
      rw [Bool.eq_iff_iff]
      simp [isW, sgn, fitsB, wrap32, i16wrap]
      omega
    · by_cases h4 : m = 4
      · subst h4
        rw [Bool.eq_iff_iff]
        simp [isW, sgn, fitsB, wrap32]
        omega
      · simp [isW, fitsB, h1, h2, h4]

theorem refFits_any (n m : Int) (w : World) :
    Calls Tryz.prog 121 #[.int .i32 n, .int .i64 m] w fun e w' => e = .returned (.bool (fitsB n m)) ∧ w' = w := by
  by_cases h1 : m = 1
  · subst h1
    by_cases a : -128 ≤ n
    · by_cases b : n ≤ 127
      · have hf : fitsB n 1 = true := by simp [fitsB, a, b]
        rw [hf]
        go_enter Tryz.func121, Tryz.ntmps121
        go_wp2
        go_ret
        exact ⟨rfl, rfl⟩
      · have hf : fitsB n 1 = false := by simp [fitsB, b]
        rw [hf]
        go_enter Tryz.func121, Tryz.ntmps121
        go_wp2
        go_ret
        exact ⟨rfl, rfl⟩
    · have hf : fitsB n 1 = false := by simp [fitsB, a]
      rw [hf]
      go_enter Tryz.func121, Tryz.ntmps121
      go_wp2
      go_ret
      exact ⟨rfl, rfl⟩
  · have e1 : (m == 1) = false := by simpa using h1
    by_cases h2 : m = 2
    · subst h2
      by_cases a : -32768 ≤ n
      · by_cases b : n ≤ 32767
        · have hf : fitsB n 2 = true := by simp [fitsB, a, b]
          rw [hf]
          go_enter Tryz.func121, Tryz.ntmps121
          go_wp2
          go_ret
          exact ⟨rfl, rfl⟩
        · have hf : fitsB n 2 = false := by simp [fitsB, b]
          rw [hf]
          go_enter Tryz.func121, Tryz.ntmps121
          go_wp2
          go_ret
          exact ⟨rfl, rfl⟩
      · have hf : fitsB n 2 = false := by simp [fitsB, a]
        rw [hf]
        go_enter Tryz.func121, Tryz.ntmps121
        go_wp2
        go_ret
        exact ⟨rfl, rfl⟩
    · have e2 : (m == 2) = false := by simpa using h2
      by_cases h4 : m = 4
      · subst h4
        go_enter Tryz.func121, Tryz.ntmps121
        go_wp2
        go_ret
        exact ⟨rfl, rfl⟩
      · have e4 : (m == 4) = false := by simpa using h4
        have hs : fitsB n m = false := by simp [fitsB, h1, h2, h4]
        rw [hs]
        go_enter Tryz.func121, Tryz.ntmps121
        go_wp2
        go_ret
        exact ⟨rfl, rfl⟩

end Go.Proofs.YtmndccbeddaphaaGreatDoor.O
/- Plain arithmetic on bytes: the number that bytes are, the lowest first, and how a shift and an or build it. -/
namespace Go.Proofs.YtmndccbeddaphaaGreatDoor.O

/-- the number that bytes are, the lowest first -/
def leN : List Int → Int
  | [] => 0
  | z :: zs => z + 256 * leN zs

def AreBytes (zs : List Int) : Prop := ∀ z ∈ zs, 0 ≤ z ∧ z ≤ 255

theorem leN_bd : (zs : List Int) → AreBytes zs → 0 ≤ leN zs ∧ leN zs < 256 ^ zs.length
  | [], _ => by simp [leN]
  | z :: zs, h => by
    have ih := leN_bd zs (fun y hy => h y (by simp [hy]))
    have hz := h z (by simp)
    simp only [leN, List.length_cons]
    have e : (256 : Int) ^ (zs.length + 1) = 256 * 256 ^ zs.length := by rw [Int.pow_succ]; omega
    rw [e]
    omega

theorem leN_snoc : (zs : List Int) → (z : Int) → leN (zs ++ [z]) = leN zs + 256 ^ zs.length * z
  | [], z => by simp [leN]
  | y :: zs, z => by
    have ih := leN_snoc zs z
    have e : (256 : Int) ^ (zs.length + 1) = 256 * 256 ^ zs.length := by rw [Int.pow_succ]; omega
    simp only [leN, List.cons_append, List.length_cons, ih, e]
    rw [Int.mul_add, Int.mul_assoc]
    omega

theorem take_step (zs : List Int) (k j : Nat) (h : k + j < zs.length) : (zs.drop k).take (j + 1) = (zs.drop k).take j ++ [zs[k + j]?.getD 0] := by
  rw [List.take_succ_eq_append_getElem (by simp; omega)]
  simp [List.getElem?_eq_getElem h]

theorem or_step (x z : Int) (j : Nat) (hj : j ≤ 3) (hx0 : 0 ≤ x) (hx : x < 256 ^ j) (hz0 : 0 ≤ z) (hz : z ≤ 255) :
    bits .or .u32 x (z % 4294967296 * 2 ^ (8 * j) % 4294967296) = x + 256 ^ j * z := by
  obtain ⟨a, rfl⟩ : ∃ a : Nat, x = a := ⟨x.toNat, by omega⟩
  obtain ⟨c, rfl⟩ : ∃ c : Nat, z = c := ⟨z.toNat, by omega⟩
  have hp : (2 : Nat) ^ (8 * j) = 256 ^ j := by rw [Nat.pow_mul]
  have hpi : (2 : Int) ^ (8 * j) = 256 ^ j := by rw [Int.pow_mul]; rfl
  have hle : 256 ^ j ≤ 16777216 := by
    have : j = 0 ∨ j = 1 ∨ j = 2 ∨ j = 3 := by omega
    rcases this with rfl | rfl | rfl | rfl <;> decide
  have ha : a < 256 ^ j := by
    have : ((a : Nat) : Int) < ((256 ^ j : Nat) : Int) := by simpa using hx
    omega
  have hcp : c * 256 ^ j ≤ 255 * 16777216 := Nat.mul_le_mul (by omega) hle
  have e1 : ((c : Int) % 4294967296 * 2 ^ (8 * j) % 4294967296) = ((c * 256 ^ j : Nat) : Int) := by
    have hcm : (c : Int) % 4294967296 = c := by omega
    have hcc : (c : Int) * 256 ^ j = ((c * 256 ^ j : Nat) : Int) := by simp
    rw [hpi, hcm, hcc, Int.emod_eq_of_lt (by omega) (by omega)]
  rw [e1, u32_or_nat a (c * 256 ^ j) (by omega) (by omega)]
  have e2 : c * 256 ^ j = c <<< (8 * j) := by rw [Nat.shiftLeft_eq, hp]
  have e3 : a ||| c * 256 ^ j = c * 256 ^ j + a := by
    rw [Nat.or_comm, e2, ← Nat.shiftLeft_add_eq_or_of_lt (by rw [hp]; exact ha)]
  rw [e3]
  have : (256 : Int) ^ j * (c : Int) = ((c * 256 ^ j : Nat) : Int) := by simp [Int.mul_comm]
  rw [this]
  omega

theorem areBytes_take (zs : List Int) (h : AreBytes zs) (n : Nat) : AreBytes (zs.take n) := fun z hz => h z (List.mem_of_mem_take hz)
theorem areBytes_drop (zs : List Int) (h : AreBytes zs) (n : Nat) : AreBytes (zs.drop n) := fun z hz => h z (List.mem_of_mem_drop hz)
theorem areBytes_getD (zs : List Int) (h : AreBytes zs) (n : Nat) : 0 ≤ zs[n]?.getD 0 ∧ zs[n]?.getD 0 ≤ 255 := by
  rcases Nat.lt_or_ge n zs.length with hn | hn
  · rw [List.getElem?_eq_getElem hn]
    exact h _ (List.getElem_mem hn)
  · rw [List.getElem?_eq_none hn]
    decide

theorem leN_step (zs : List Int) (hz : AreBytes zs) (k j : Nat) (hj : j ≤ 3) (h : k + j < zs.length) :
    bits .or .u32 (leN ((zs.drop k).take j)) (zs[k + j]?.getD 0 % 4294967296 * 2 ^ (8 * j) % 4294967296) = leN ((zs.drop k).take (j + 1)) := by
  have hb := leN_bd ((zs.drop k).take j) (areBytes_take _ (areBytes_drop _ hz k) j)
  have hl : ((zs.drop k).take j).length = j := by simp; omega
  rw [hl] at hb
  have hg := areBytes_getD zs hz (k + j)
  rw [take_step zs k j h, leN_snoc, hl]
  exact or_step _ _ j hj hb.1 hb.2 hg.1 hg.2

/-- the number that m bytes from a on are -/
def partN (zs : List Int) (a m : Nat) : Int := leN ((zs.drop a).take m)

theorem partN_down (zs : List Int) (hz : AreBytes zs) (k m : Nat) (hm : m ≤ 3) (h : k < zs.length) (hl : k + m < zs.length) :
    (partN zs (k + 1) m * 256 % 4294967296 + zs[k]?.getD 0 % 4294967296) % 4294967296 = partN zs k (m + 1) := by
  have hb := leN_bd ((zs.drop (k + 1)).take m) (areBytes_take _ (areBytes_drop _ hz (k + 1)) m)
  have hlen : ((zs.drop (k + 1)).take m).length = m := by simp; omega
  rw [hlen] at hb
  have hp : (256 : Int) ^ m ≤ 16777216 := by
    have : m = 0 ∨ m = 1 ∨ m = 2 ∨ m = 3 := by omega
    rcases this with rfl | rfl | rfl | rfl <;> decide
  have hg := areBytes_getD zs hz k
  have hd : zs.drop k = zs[k]?.getD 0 :: zs.drop (k + 1) := by
    rw [List.drop_eq_getElem_cons h, List.getElem?_eq_getElem h]
    rfl
  have e : partN zs k (m + 1) = zs[k]?.getD 0 + 256 * partN zs (k + 1) m := by
    simp only [partN]
    rw [hd, List.take_succ_cons, leN]
  have hb' : 0 ≤ partN zs (k + 1) m ∧ partN zs (k + 1) m < 16777216 := ⟨hb.1, Int.lt_of_lt_of_le hb.2 hp⟩
  rw [e]
  omega
end Go.Proofs.YtmndccbeddaphaaGreatDoor.O
/- Contracts of octet.Get and of the document's Get, and of the runs that every statement of this stage asks: what they answer of bytes that lie in memory. -/
namespace Go.Proofs.YtmndccbeddaphaaGreatDoor.O
open Go.ChangeShapes Go.WideShapes Go.ChangeAt Go.RowKit
set_option linter.unusedVariables false

/-- the bytes zs lie in w from a on -/
def Lies (w : World) (a : Option Addr) (zs : List Int) : Prop :=
  AreBytes zs ∧ (zs = [] ∨ ∃ b off, a = some ⟨b, off, none⟩ ∧ ∀ i, i < zs.length → w.cell? ⟨b, off + i, none⟩ = some (.int .u8 (zs.getD i 0)))

def getE (zs : List Int) (at' width : Int) : Int :=
  if isW width = false ∨ at' < 0 ∨ (zs.length : Int) < at' then 1 else if (zs.length : Int) - at' < width then 10 else 0
def getN (zs : List Int) (at' width : Int) : Int :=
  if getE zs at' width = 0 then leN ((zs.drop at'.toNat).take width.toNat) else 0

theorem isW_cases {n : Int} (h : isW n = true) : n = 1 ∨ n = 2 ∨ n = 4 := by
  simp [isW] at h
  omega

theorem get_ok (b off k wd cap : Nat) (zs : List Int) (w : World) (hz : AreBytes zs) (hc : ∀ i, i < zs.length → w.cell? ⟨b, off + i, none⟩ = some (.int .u8 (zs.getD i 0)))
    (hm : zs.length ≤ maxLen) (hw : wd = 1 ∨ wd = 2 ∨ wd = 4) (hk : k + wd ≤ zs.length) :
    Calls Tryz.prog 137 #[.slice (some ⟨b, off, none⟩) zs.length cap, .int .i64 k, .int .i64 wd] w fun e w' => e = .returned (.tuple #[.int .u32 (leN ((zs.drop k).take wd)), .int .i64 0]) ∧ w' = w := by
  have hW : isW (wd : Int) = true := by rcases hw with rfl | rfl | rfl <;> rfl
  have hw4 : wd ≤ 4 := by omega
  unfold maxLen at hm
  go_enter Tryz.func137, Tryz.ntmps137
  go_wp2_with (first | (go_at_call 168; refine (isWidth_any _ _).mono ?_; rintro e w' ⟨rfl, rfl⟩))
  go_loop [8, 30] (fun n i => ∃ j : Nat, j ≤ wd ∧ i = .int .i64 j ∧ n = .int .u32 (leN ((zs.drop k).take j))) (fun _ i => wd - (intOf i).toNat)
  case atStart => exact ⟨0, Nat.zero_le _, rfl, rfl⟩
  case round =>
    obtain ⟨j, hj, rfl, rfl⟩ := hrel
    by_cases hlt : j < wd
    · have hcell := hc (k + j) (by omega)
      go_wp2
      go_round
      case rel => exact ⟨j + 1, by omega, by go_num, by rw [leN_step zs hz k j (by omega) (by omega)]⟩
      case measure => simp [intOf]; omega
    · go_wp2
      go_ret2
      have e : j = wd := by omega
      subst e
      exact ⟨rfl, rfl⟩

theorem get_any (a : Option Addr) (cap : Nat) (zs : List Int) (at' width : Int) (w : World) (hl : Lies w a zs) (hm : zs.length ≤ maxLen) (ha : -9223372036854775808 ≤ at' ∧ at' ≤ 9223372036854775807) :
    Calls Tryz.prog 137 #[.slice a zs.length cap, .int .i64 at', .int .i64 width] w fun e w' => e = .returned (.tuple #[.int .u32 (getN zs at' width), .int .i64 (getE zs at' width)]) ∧ w' = w := by
  by_cases h1 : isW width = false
  · have e : getE zs at' width = 1 := by simp [getE, h1]
    have e' : getN zs at' width = 0 := by simp [getN, e]
    rw [e, e']
    clear e e'
    unfold maxLen at hm
    go_enter Tryz.func137, Tryz.ntmps137
    go_wp2_with (first | (go_at_call 168; refine (isWidth_any _ _).mono ?_; rintro e w' ⟨rfl, rfl⟩))
    go_ret2
    exact ⟨rfl, rfl⟩
  · replace h1 : isW width = true := by simpa using h1
    by_cases h2 : at' < 0
    · have e : getE zs at' width = 1 := by simp [getE, h2]
      have e' : getN zs at' width = 0 := by simp [getN, e]
      rw [e, e']
      clear e e'
      unfold maxLen at hm
      go_enter Tryz.func137, Tryz.ntmps137
      go_wp2_with (first | (go_at_call 168; refine (isWidth_any _ _).mono ?_; rintro e w' ⟨rfl, rfl⟩))
      go_ret2
      exact ⟨rfl, rfl⟩
    · by_cases h3 : (zs.length : Int) < at'
      · have e : getE zs at' width = 1 := by simp [getE, h3]
        have e' : getN zs at' width = 0 := by simp [getN, e]
        rw [e, e']
        clear e e'
        unfold maxLen at hm
        go_enter Tryz.func137, Tryz.ntmps137
        go_wp2_with (first | (go_at_call 168; refine (isWidth_any _ _).mono ?_; rintro e w' ⟨rfl, rfl⟩))
        go_ret2
        exact ⟨rfl, rfl⟩
      · obtain ⟨k, rfl⟩ : ∃ k : Nat, at' = k := ⟨at'.toNat, by omega⟩
        by_cases h4 : (zs.length : Int) - k < width
        · have e : getE zs k width = 10 := by simp only [getE]; rw [if_neg (by simp [h1]; omega), if_pos h4]
          have e' : getN zs k width = 0 := by simp [getN, e]
          rw [e, e']
          clear e e'
          unfold maxLen at hm
          go_enter Tryz.func137, Tryz.ntmps137
          go_wp2_with (first | (go_at_call 168; refine (isWidth_any _ _).mono ?_; rintro e w' ⟨rfl, rfl⟩))
          go_ret2
          exact ⟨rfl, rfl⟩
        · have e : getE zs k width = 0 := by simp only [getE]; rw [if_neg (by simp [h1]; omega), if_neg h4]
          have hwc := isW_cases h1
          obtain ⟨wd, rfl⟩ : ∃ wd : Nat, width = wd := ⟨width.toNat, by omega⟩
          have e' : getN zs k wd = leN ((zs.drop k).take wd) := by simp [getN, e]
          rw [e, e']
          obtain ⟨hz, hb⟩ := hl
          rcases hb with rfl | ⟨b, off, rfl, hc⟩
          · simp at h4; omega
          · exact get_ok b off k wd cap zs w hz hc hm (by omega) (by omega)

theorem refGet_ok (b off k wd cap : Nat) (zs : List Int) (w : World) (hz : AreBytes zs) (hc : ∀ i, i < zs.length → w.cell? ⟨b, off + i, none⟩ = some (.int .u8 (zs.getD i 0)))
    (hm : zs.length ≤ maxLen) (hw : wd = 1 ∨ wd = 2 ∨ wd = 4) (hk : k + wd ≤ zs.length) :
    Calls Tryz.prog 89 #[.slice (some ⟨b, off, none⟩) zs.length cap, .int .i64 k, .int .i64 wd] w fun e w' => e = .returned (.tuple #[.int .u32 (partN zs k wd), .int .i64 0]) ∧ w' = w := by
  have hk0 : ¬ ((k : Int) < 0) := by omega
  unfold maxLen at hm
  rcases hw with rfl | rfl | rfl
  · go_enter Tryz.func89, Tryz.ntmps89
    go_wp2
    go_loop [8, 9] (fun n i => ∃ j m : Nat, j + m ≤ 1 ∧ 1 ≤ j + m ∧ i = .int .i64 ((j : Int) - 1) ∧ n = .int .u32 (partN zs (k + j) m)) (fun _ i => (intOf i + 1).toNat)
    case atStart => exact ⟨1, 0, Nat.le_refl _, Nat.le_refl _, rfl, by simp [partN, leN]⟩
    case round =>
      obtain ⟨j, m, hj, hjm, rfl, rfl⟩ := hrel
      by_cases hlt : j = 0
      · subst hlt
        go_wp2
        go_ret2
        have e : m = 1 := by omega
        subst e
        exact ⟨rfl, rfl⟩
      · obtain ⟨i, rfl⟩ : ∃ i : Nat, j = i + 1 := ⟨j - 1, by omega⟩
        have hcell := hc (k + i) (by omega)
        go_wp2
        go_round
        case rel => exact ⟨i, m + 1, by omega, by omega, by go_num, by rw [← partN_down zs hz (k + i) m (by omega) (by omega) (by omega)]; rfl⟩
        case measure => simp [intOf]
  · go_enter Tryz.func89, Tryz.ntmps89
    go_wp2
    go_loop [8, 9] (fun n i => ∃ j m : Nat, j + m ≤ 2 ∧ 2 ≤ j + m ∧ i = .int .i64 ((j : Int) - 1) ∧ n = .int .u32 (partN zs (k + j) m)) (fun _ i => (intOf i + 1).toNat)
    case atStart => exact ⟨2, 0, Nat.le_refl _, Nat.le_refl _, rfl, by simp [partN, leN]⟩
    case round =>
      obtain ⟨j, m, hj, hjm, rfl, rfl⟩ := hrel
      by_cases hlt : j = 0
      · subst hlt
        go_wp2
        go_ret2
        have e : m = 2 := by omega
        subst e
        exact ⟨rfl, rfl⟩
      · obtain ⟨i, rfl⟩ : ∃ i : Nat, j = i + 1 := ⟨j - 1, by omega⟩
        have hcell := hc (k + i) (by omega)
        go_wp2
        go_round
        case rel => exact ⟨i, m + 1, by omega, by omega, by go_num, by rw [← partN_down zs hz (k + i) m (by omega) (by omega) (by omega)]; rfl⟩
        case measure => simp [intOf]
  · go_enter Tryz.func89, Tryz.ntmps89
    go_wp2
    go_loop [8, 9] (fun n i => ∃ j m : Nat, j + m ≤ 4 ∧ 4 ≤ j + m ∧ i = .int .i64 ((j : Int) - 1) ∧ n = .int .u32 (partN zs (k + j) m)) (fun _ i => (intOf i + 1).toNat)
    case atStart => exact ⟨4, 0, Nat.le_refl _, Nat.le_refl _, rfl, by simp [partN, leN]⟩
    case round =>
      obtain ⟨j, m, hj, hjm, rfl, rfl⟩ := hrel
      by_cases hlt : j = 0
      · subst hlt
        go_wp2
        go_ret2
        have e : m = 4 := by omega
        subst e
        exact ⟨rfl, rfl⟩
      · obtain ⟨i, rfl⟩ : ∃ i : Nat, j = i + 1 := ⟨j - 1, by omega⟩
        have hcell := hc (k + i) (by omega)
        go_wp2
        go_round
        case rel => exact ⟨i, m + 1, by omega, by omega, by go_num, by rw [← partN_down zs hz (k + i) m (by omega) (by omega) (by omega)]; rfl⟩
        case measure => simp [intOf]

end Go.Proofs.YtmndccbeddaphaaGreatDoor.O
namespace Go.Proofs.YtmndccbeddaphaaGreatDoor.O
open Go.ChangeShapes Go.WideShapes Go.ChangeAt Go.RowKit
set_option linter.unusedVariables false
set_option maxRecDepth 100000

theorem same_eq (a1 a2 : Option Addr) (c1 c2 : Nat) (xs : List Int) (w : World) (h1 : Lies w a1 xs) (h2 : Lies w a2 xs) (hm : xs.length ≤ maxLen) :
    Calls Tryz.prog 15 #[.slice a1 xs.length c1, .slice a2 xs.length c2] w fun e w' => e = .returned (.bool true) ∧ ∃ n, w' = w.drewN n := by
  unfold maxLen at hm
  rcases h1.2 with rfl | ⟨b1, o1, rfl, hc1⟩
  · go_enter Tryz.func15, Tryz.ntmps15
    go_wp2
    go_loop [5] (fun i => i = .int .i64 0) (fun _ => 0)
    case atStart => rfl
    case round =>
      subst hrel
      go_wp2
      go_ret
      exact ⟨rfl, 0, rfl⟩
  · rcases h2.2 with rfl | ⟨b2, o2, rfl, hc2⟩
    · go_enter Tryz.func15, Tryz.ntmps15
      go_wp2
      go_loop [5] (fun i => i = .int .i64 0) (fun _ => 0)
      case atStart => rfl
      case round =>
        subst hrel
        go_wp2
        go_ret
        exact ⟨rfl, 0, rfl⟩
    · clear h1 h2
      go_enter Tryz.func15, Tryz.ntmps15
      go_wp2
      go_loopw [5] (fun i wr => ∃ k n : Nat, k ≤ xs.length ∧ i = .int .i64 k ∧ wr = w.drewN n) (fun i _ => xs.length - (intOf i).toNat)
      case atStart => exact ⟨0, 0, Nat.zero_le _, rfl, rfl⟩
      case round =>
        obtain ⟨k, n, hk, rfl, rfl⟩ := hrel
        by_cases hlt : k < xs.length
        · have q1 := hc1 k hlt
          have q2 := hc2 k hlt
          go_wp2
          go_quiet (fail)
          go_wp2
          go_roundw
          case rel => exact ⟨k + 1, n + nq, by omega, by go_num, by simp⟩
          case measure => simp [intOf]; omega
        · go_wp2
          go_ret
          exact ⟨rfl, n, rfl⟩

def cellsOf (zs : List Int) : List Value := zs.map (Value.int .u8)
theorem cellsOf_length (zs : List Int) : (cellsOf zs).length = zs.length := by simp [cellsOf]
theorem cellsOf_get (zs : List Int) (i : Nat) (h : i < zs.length) : (cellsOf zs)[i]? = some (.int .u8 (zs.getD i 0)) := by
  simp [cellsOf, List.getElem?_eq_getElem h]

/-- block g of w is a row that holds just the bytes zs -/
def RowIs (w : World) (g : Nat) (zs : List Int) : Prop := w.heap[g]? = some (.cells (cellsOf zs).toArray 5 (0, 0))

theorem RowIs.cell {w : World} {g : Nat} {zs : List Int} (h : RowIs w g zs) (i : Nat) (hi : i < zs.length) : w.cell? ⟨g, i, none⟩ = some (.int .u8 (zs.getD i 0)) := by
  rw [cell_of_row w g i _ 5 (0, 0) h]
  simpa using cellsOf_get zs i hi
theorem RowIs.lt {w : World} {g : Nat} {zs : List Int} (h : RowIs w g zs) : g < w.heap.size := (Array.getElem?_eq_some_iff.1 h).1
theorem RowIs.below {w w' : World} {g B : Nat} {zs : List Int} (h : RowIs w g zs) (hb : Below B w w') (hg : g < B) : RowIs w' g zs := by
  unfold RowIs at h ⊢
  rw [hb.block g hg, h]

theorem Tryz.info5 : (Tryz.prog.info? 5).map (fun i => (i.zero, i.size, i.bytes)) = some (some (.int .u8 0), 1, 1) := by kernel_rfl

theorem RowIs.frozen {w : World} {g : Nat} {zs : List Int} (h : RowIs w g zs) (i : Nat) : w.frozen? ⟨g, i, none⟩ = false := frozen_of_row w g i _ 5 h
theorem RowIs.set {w : World} {g : Nat} {zs : List Int} (h : RowIs w g zs) (i : Nat) (z : Int) : RowIs (w.setCell ⟨g, i, none⟩ (.int .u8 z)) g (zs.set i z) := by
  have := heap_setCell_same w g i _ 5 (.int .u8 z) h
  unfold RowIs
  rw [this]
  simp [cellsOf, List.map_set]

theorem made_row {w : World} {base g n : Nat} (h : w.ownsRow base 5 1 (.slice (some ⟨g, 0, none⟩) n n) n (madeCells (Value.int .u8 0).cells (n * 1)).toList) : RowIs w g (List.replicate n 0) := by
  rcases h.2 with ⟨h', _⟩ | ⟨g', cap', cur, h', _, hg, _, _, hs, ht⟩
  · simp at h'
  · simp only [Value.slice.injEq, Option.some.injEq, Addr.mk.injEq, and_true, true_and] at h'
    obtain ⟨rfl, rfl⟩ := h'
    unfold RowIs
    rw [hg]
    have e : cur.toList = cellsOf (List.replicate n 0) := by
      rw [List.take_of_length_le (by simpa using Nat.le_of_eq hs)] at ht
      rw [ht]
      have : (Value.int IntKind.u8 0).cells = #[.int .u8 0] := rfl
      rw [this, toList_madeCells_one]
      simp [cellsOf]
    rw [← e]

/-- a row of N bytes: zs, then marks up to place k, then noughts -/
def fillRow (zs : List Int) (m : Int) (N k : Nat) : List Int := zs ++ List.replicate (k - zs.length) m ++ List.replicate (N - k) 0
theorem fillRow_length (zs : List Int) (m : Int) (N k : Nat) (h : zs.length ≤ k) (hk : k ≤ N) : (fillRow zs m N k).length = N := by simp [fillRow]; omega
theorem fillRow_set (zs : List Int) (m : Int) (N k : Nat) (h : zs.length ≤ k) (hk : k < N) : (fillRow zs m N k).set k m = fillRow zs m N (k + 1) := by
  unfold fillRow
  rw [List.set_append_right _ _ (by simp; omega)]
  have e1 : k - (zs ++ List.replicate (k - zs.length) m).length = 0 := by simp; omega
  obtain ⟨j, hj⟩ : ∃ j, N - k = j + 1 := ⟨N - k - 1, by omega⟩
  have hj' : N - (k + 1) = j := by omega
  rw [e1, hj, hj', List.replicate_succ, List.set_cons_zero, show k + 1 - zs.length = (k - zs.length) + 1 by omega, List.replicate_succ']
  simp

theorem lies_src {w : World} {a : Option Addr} {zs : List Int} (hl : Lies w a zs) {w1 : World} (hb : Below w.heap.size w w1) (h0 : 0 < (cellsOf zs).length) :
    ∃ ad, a = some ad ∧ ∀ j v, (cellsOf zs)[j]? = some v → w1.cell? (ad.add j) = some v := by
  rcases hl.2 with rfl | ⟨b, off, rfl, hc⟩
  · simp [cellsOf] at h0
  · refine ⟨_, rfl, fun j v hj => ?_⟩
    have hlt : j < zs.length := by
      rcases Nat.lt_or_ge j zs.length with h | h
      · exact h
      · rw [List.getElem?_eq_none (by simpa [cellsOf] using h)] at hj
        cases hj
    have hadd : (⟨b, off, none⟩ : Addr).add j = ⟨b, off + j, none⟩ := by unfold Addr.add; split <;> simp_all
    rw [cellsOf_get zs j hlt] at hj
    rw [hadd, hb.cell (World.block_lt_of_cell? w _ (hc j hlt)), hc j hlt, hj]
theorem cellsOf_one (zs : List Int) : ∀ v ∈ cellsOf zs, v.oneCell' = true := by
  intro v hv
  simp [cellsOf] at hv
  obtain ⟨z, _, rfl⟩ := hv
  rfl
theorem splice_fill (zs : List Int) (m : Int) (N : Nat) (h : zs.length ≤ N) : splice (cellsOf (List.replicate N 0)) 0 (cellsOf zs) = cellsOf (fillRow zs m N zs.length) := by
  simp [splice, cellsOf, fillRow]

theorem roomy_any (a : Option Addr) (cap : Nat) (zs : List Int) (m : Int) (w : World) (hl : Lies w a zs) (hm : zs.length ≤ 140737488355328) :
    Calls Tryz.prog 16 #[.slice a zs.length cap, .int .u8 m] w fun e w' => e = .returned (.slice (some ⟨w.heap.size, 0, none⟩) (zs.length + 80) (zs.length + 80)) ∧ RowIs w' w.heap.size (zs ++ List.replicate 80 m) ∧ Below w.heap.size w w' := by
  obtain ⟨i0, hi, hz0, hz1, hz2⟩ := info_parts Tryz.info5
  go_enter Tryz.func16, Tryz.ntmps16
  go_wp2_with (first
    | (at_make; go_must (refine wpList_make_full _ rfl (.tmp 9) (.tmp 9) 22 rfl w.heap.size 5 i0 (.int .u8 0) 1 Tryz.underlying22 hi hz0 hz1 .i64 .i64 _ _ (zs.length + 80) rfl rfl (by omega) (by omega) (by rw [hz2]; omega) (by unfold maxLen; omega) (Nat.le_refl _) ?_; intro w1 hown1 hgrow1; have hr1 := made_row hown1; have hb1 : Below w.heap.size w w1 := (Below.refl _ _).grown hgrow1 (Nat.le_refl _) (fun k hk => by cases hk); clear hown1 hgrow1))
    | (refine wpList_copy_splice rfl (.tmp 11) (.tmp 12) 22 22 rfl 5 Tryz.underlying22 (by kernel_rfl) _ _ _ _ _ _ rfl rfl w.heap.size 0 (cellsOf (List.replicate (zs.length + 80) 0)) 5 hr1 (cellsOf zs) (by rw [cellsOf_length]; exact (Nat.min_eq_left (by omega)).symm) (fun h0 => ⟨rfl, lies_src hl hb1 h0⟩) (by simp [cellsOf_length]) (cellsOf_one zs) w.heap.size w hb1 (Nat.le_refl _) ?_; intro w2 hg2 hb2; rw [splice_fill zs m _ (by omega)] at hg2))
  go_loopw [6] (fun i wr => ∃ k : Nat, zs.length ≤ k ∧ k ≤ zs.length + 80 ∧ i = .int .i64 k ∧ RowIs wr w.heap.size (fillRow zs m (zs.length + 80) k) ∧ Below w.heap.size w wr) (fun i _ => zs.length + 80 - (intOf i).toNat)
  case atStart => exact ⟨zs.length, Nat.le_refl _, by omega, rfl, hg2.out, hb2⟩
  case round =>
    obtain ⟨k, hk0, hk, rfl, hrow, hbr⟩ := hrel
    by_cases hlt : k < zs.length + 80
    · have q1 := hrow.cell k (by rw [fillRow_length _ _ _ _ hk0 hk]; exact hlt)
      have q2 := hrow.frozen k
      have q3 : RowIs (wr.setCell ⟨w.heap.size, k, none⟩ (.int .u8 m)) w.heap.size (fillRow zs m (zs.length + 80) (k + 1)) := by
        rw [← fillRow_set zs m _ k hk0 hlt]; exact hrow.set k m
      have q4 : Below w.heap.size w (wr.setCell ⟨w.heap.size, k, none⟩ (.int .u8 m)) := hbr.setCell (Nat.le_refl _) _
      clear hrow
      go_wp2
      go_roundw
      case rel => exact ⟨k + 1, by omega, by omega, by go_num, q3, q4⟩
      case measure => simp [intOf]; omega
    · have e : k = zs.length + 80 := by omega
      subst e
      go_wp2
      go_ret
      exact ⟨rfl, by simpa [fillRow] using hrow, hbr⟩

theorem RowIs.lies {w : World} {g : Nat} {zs ys : List Int} (h : RowIs w g (zs ++ ys)) (hz : AreBytes zs) : Lies w (some ⟨g, 0, none⟩) zs := by
  refine ⟨hz, .inr ⟨g, 0, rfl, fun i hi => ?_⟩⟩
  have := h.cell i (by simp; omega)
  rw [Nat.zero_add, this]
  simp [List.getElem?_append_left hi]

theorem RowIs.drewN {w : World} {g : Nat} {zs : List Int} (h : RowIs w g zs) (n : Nat) : RowIs (w.drewN n) g zs := by
  have e : (w.drewN n).heap = w.heap := by simp
  unfold RowIs
  rw [e]
  exact h
theorem Lies.drewN {w : World} {a : Option Addr} {zs : List Int} (h : Lies w a zs) (n : Nat) : Lies (w.drewN n) a zs := by
  refine ⟨h.1, ?_⟩
  rcases h.2 with h | ⟨b, off, ha, hc⟩
  · exact .inl h
  · exact .inr ⟨b, off, ha, fun i hi => by rw [← hc i hi]; simp⟩
theorem Lies.below {w w' : World} {a : Option Addr} {zs : List Int} (h : Lies w a zs) (hb : Below w.heap.size w w') : Lies w' a zs := by
  refine ⟨h.1, ?_⟩
  rcases h.2 with h | ⟨b, off, ha, hc⟩
  · exact .inl h
  · exact .inr ⟨b, off, ha, fun i hi => by rw [hb.cell (World.block_lt_of_cell? w _ (hc i hi))]; exact hc i hi⟩

theorem getD_tail (zs : List Int) (m : Int) (N k : Nat) (h1 : zs.length ≤ k) (h2 : k < zs.length + N) : (zs ++ List.replicate N m).getD k 0 = m := by
  rw [List.getD_eq_getElem?_getD, List.getElem?_append_right h1, List.getElem?_replicate_of_lt (by omega)]
  rfl

theorem intact_any (a : Option Addr) (g cap : Nat) (zs : List Int) (m : Int) (w : World) (hl : Lies w a zs) (hr : RowIs w g (zs ++ List.replicate 80 m)) (hm : zs.length ≤ 140737488355328) :
    Calls Tryz.prog 19 #[.slice (some ⟨g, 0, none⟩) (zs.length + 80) (zs.length + 80), .slice a zs.length cap, .int .u8 m] w fun e w' => e = .returned (.bool true) ∧ ∃ n, w' = w.drewN n := by
  have hs := fun c => same_eq (some ⟨g, 0, none⟩) a c cap zs w (hr.lies hl.1) hl (by unfold maxLen; omega)
  have hcell : ∀ n k, zs.length ≤ k → k < zs.length + 80 → (w.drewN n).cell? ⟨g, k, none⟩ = some (.int .u8 m) := by
    intro n k h1 h2
    rw [(hr.drewN n).cell k (by rw [List.length_append, List.length_replicate]; exact h2), getD_tail zs m 80 k h1 h2]
  clear hl hr
  go_enter Tryz.func19, Tryz.ntmps19
  go_wp2_with (first | (go_at_call 15; refine (hs _).mono ?_; rintro e w' ⟨rfl, n0, rfl⟩))
  go_loop [7] (fun i => ∃ k : Nat, zs.length ≤ k ∧ k ≤ zs.length + 80 ∧ i = .int .i64 k) (fun i => zs.length + 80 - (intOf i).toNat)
  case atStart => exact ⟨zs.length, Nat.le_refl _, by omega, rfl⟩
  case round =>
    obtain ⟨k, hk0, hk, rfl⟩ := hrel
    by_cases hlt : k < zs.length + 80
    · have q := hcell n0 k hk0 hlt
      clear hcell
      go_wp2
      go_round
      case rel => exact ⟨k + 1, by omega, by omega, by go_num⟩
      case measure => simp [intOf]; omega
    · go_wp2
      go_ret
      exact ⟨rfl, n0, rfl⟩

end Go.Proofs.YtmndccbeddaphaaGreatDoor.O
