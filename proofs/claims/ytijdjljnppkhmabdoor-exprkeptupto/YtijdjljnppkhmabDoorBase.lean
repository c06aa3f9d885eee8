/- Contracts of lex's small functions that only compute, and of the document's: kinds of bytes, a digit's number, the byte at a place. -/
import Derived.Test.YtijdjljnppkhmabDoorScope
import Derived.Lib.Bytealg
import Derived.Lib.IndexAny
import Derived.Lib.Strings
namespace Go.Proofs.YtijdjljnppkhmabDoor
open Go.ChangeShapes Go.WideShapes Go.ChangeAt Go.RowKit
set_option linter.unusedVariables false
set_option maxRecDepth 100000

def isBl (c : Int) : Bool := c == 9 || c == 13 || c == 32
def isLet (c : Int) : Bool := decide (97 ≤ c ∧ c ≤ 122) || decide (65 ≤ c ∧ c ≤ 90) || c == 95
def isDig (c : Int) : Bool := decide (48 ≤ c ∧ c ≤ 57)
def inW (c : Int) : Bool := isLet c || isDig c
def isHex (c : Int) : Bool := isDig c || decide (97 ≤ c ∧ c ≤ 102)
def isQuo (c : Int) : Bool := decide (32 ≤ c ∧ c ≤ 126) && c != 39
def isSg (c : Int) : Bool := c == 58 || c == 44 || c == 40 || c == 41 || c == 43 || c == 45 || c == 42 || c == 61
def digI (c : Int) : Int := if 48 ≤ c ∧ c ≤ 57 then c - 48 else c - 97 + 10

/-- the bytes of a text; the byte at a place, 0 past the end -/
def bs (s : ByteArray) : List UInt8 := s.data.toList
def atI (l : List UInt8) (k : Nat) : Int := ((l.getD k 0).toNat : Int)

theorem bs_length (s : ByteArray) : (bs s).length = s.size := (Lib.size_eq s).symm

theorem atI_lo (l : List UInt8) (k : Nat) : 0 ≤ atI l k := by unfold atI; omega
theorem atI_hi (l : List UInt8) (k : Nat) : atI l k ≤ 255 := by
  unfold atI
  have := UInt8.toNat_lt (l.getD k 0)
  omega
theorem atI_out (l : List UInt8) (k : Nat) (h : l.length ≤ k) : atI l k = 0 := by
  unfold atI
  rw [List.getD_eq_getElem?_getD, List.getElem?_eq_none h]
  rfl
theorem atI_drop (l : List UInt8) (a i : Nat) : atI (l.drop a) i = atI l (a + i) := by
  unfold atI
  simp [List.getD_eq_getElem?_getD, List.getElem?_drop]
theorem atI_get (s : ByteArray) (k : Nat) (h : k < s.size) : ((s[k].toNat : Nat) : Int) = atI (bs s) k := by
  unfold atI bs
  have : s.data.toList.getD k 0 = s[k] := by
    rw [List.getD_eq_getElem?_getD]
    have h' : k < s.data.toList.length := by rw [← Lib.size_eq]; exact h
    rw [List.getElem?_eq_getElem h']
    rfl
  rw [this]

theorem ret_bool {x y : Bool} {w : World} (h : x = y) : Ending.returned (.bool x) = Ending.returned (.bool y) ∧ w = w := ⟨by rw [h], rfl⟩

theorem isBlank_any (c : Int) (w : World) :
    Calls Tryd.prog 83 #[.int .u8 c] w fun e w' => e = .returned (.bool (isBl c)) ∧ w' = w := by
  go_enter Tryd.func83, Tryd.ntmps83
  go_wp2
  all_goals
    go_ret
    refine ret_bool ?_
    first
      | rfl
      | (rw [Bool.eq_iff_iff]; simp [isBl]; try omega)

theorem isLetter_any (c : Int) (w : World) :
    Calls Tryd.prog 84 #[.int .u8 c] w fun e w' => e = .returned (.bool (isLet c)) ∧ w' = w := by
  go_enter Tryd.func84, Tryd.ntmps84
  go_wp2
  all_goals
    go_ret
    refine ret_bool ?_
    first
      | rfl
      | (rw [Bool.eq_iff_iff]; simp [isLet]; try omega)

theorem isDigit_any (c : Int) (w : World) :
    Calls Tryd.prog 85 #[.int .u8 c] w fun e w' => e = .returned (.bool (isDig c)) ∧ w' = w := by
  go_enter Tryd.func85, Tryd.ntmps85
  go_wp2
  all_goals
    go_ret
    refine ret_bool ?_
    first
      | rfl
      | (rw [Bool.eq_iff_iff]; simp [isDig]; try omega)

theorem refLetter_any (c : Int) (w : World) :
    Calls Tryd.prog 31 #[.int .u8 c] w fun e w' => e = .returned (.bool (isLet c)) ∧ w' = w := by
  go_enter Tryd.func31, Tryd.ntmps31
  go_wp2
  all_goals
    go_ret
    refine ret_bool ?_
    first
      | rfl
      | (rw [Bool.eq_iff_iff]; simp [isLet]; try omega)

theorem refDigit_any (c : Int) (w : World) :
    Calls Tryd.prog 32 #[.int .u8 c] w fun e w' => e = .returned (.bool (isDig c)) ∧ w' = w := by
  go_enter Tryd.func32, Tryd.ntmps32
  go_wp2
  all_goals
    go_ret
    refine ret_bool ?_
    first
      | rfl
      | (rw [Bool.eq_iff_iff]; simp [isDig]; try omega)

theorem isQuotable_any (c : Int) (w : World) :
    Calls Tryd.prog 92 #[.int .u8 c] w fun e w' => e = .returned (.bool (isQuo c)) ∧ w' = w := by
  go_enter Tryd.func92, Tryd.ntmps92
  go_wp2
  all_goals
    go_ret
    refine ret_bool ?_
    first
      | rfl
      | (rw [Bool.eq_iff_iff]; simp [isQuo]; try omega)

theorem inWord_any (c : Int) (w : World) :
    Calls Tryd.prog 87 #[.int .u8 c] w fun e w' => e = .returned (.bool (inW c)) ∧ w' = w := by
  cases h : isLet c
  all_goals
    go_enter Tryd.func87, Tryd.ntmps87
    go_wp2_with (first
      | (go_at_call 84; refine (isLetter_any _ _).mono ?_; rintro e w' ⟨rfl, rfl⟩)
      | (go_at_call 85; refine (isDigit_any _ _).mono ?_; rintro e w' ⟨rfl, rfl⟩))
    go_ret
    refine ret_bool ?_
    simp [inW, h]

theorem isHexDigit_any (c : Int) (w : World) :
    Calls Tryd.prog 91 #[.int .u8 c] w fun e w' => e = .returned (.bool (isHex c)) ∧ w' = w := by
  cases h : isDig c
  all_goals
    go_enter Tryd.func91, Tryd.ntmps91
    go_wp2_with (go_at_call 85; refine (isDigit_any _ _).mono ?_; rintro e w' ⟨rfl, rfl⟩)
    all_goals
      go_ret
      refine ret_bool ?_
      first
        | rfl
        | (rw [Bool.eq_iff_iff]; simp [isHex, h]; try omega)

theorem digit_any (c : Int) (hc : isHex c = true) (w : World) :
    Calls Tryd.prog 89 #[.int .u8 c] w fun e w' => e = .returned (.int .u64 (digI c)) ∧ w' = w := by
  cases h : isDig c
  · have h1 : 97 ≤ c ∧ c ≤ 102 := by simp [isHex, h] at hc; exact hc
    have h2 : digI c = c - 97 + 10 := by unfold digI; rw [if_neg]; omega
    rw [h2]
    go_enter Tryd.func89, Tryd.ntmps89
    go_wp2_with (go_at_call 85; refine (isDigit_any _ _).mono ?_; rintro e w' ⟨rfl, rfl⟩)
    go_ret
    refine ⟨?_, rfl⟩
    try first | rfl | (congr 2; omega)
  · have h1 : 48 ≤ c ∧ c ≤ 57 := by simpa [isDig] using h
    have h2 : digI c = c - 48 := by unfold digI; rw [if_pos h1]
    rw [h2]
    go_enter Tryd.func89, Tryd.ntmps89
    go_wp2_with (go_at_call 85; refine (isDigit_any _ _).mono ?_; rintro e w' ⟨rfl, rfl⟩)
    go_ret
    refine ⟨?_, rfl⟩
    try first | rfl | (congr 2; omega)

theorem byteAt_any (s : ByteArray) (k : Nat) (hk : k ≤ 4611686018427387904) (hs : s.size ≤ 4611686018427387904) (w : World) :
    Calls Tryd.prog 82 #[.string s, .int .i64 k] w fun e w' => e = .returned (.int .u8 (atI (bs s) k)) ∧ w' = w := by
  by_cases h : s.size ≤ k
  · rw [atI_out _ _ (by rw [bs_length]; exact h)]
    go_enter Tryd.func82, Tryd.ntmps82
    go_wp2
    go_ret
    exact ⟨rfl, rfl⟩
  · have h' : k < s.size := by omega
    rw [← atI_get s k h']
    go_enter Tryd.func82, Tryd.ntmps82
    go_wp2
    go_ret
    exact ⟨rfl, rfl⟩

theorem liteIndexByte_any (s : ByteArray) (c : Int) (w : World) :
    Calls Tryd.prog 93 #[.string s, .int .u8 c] w fun e w' => e = .returned (.int .i64 (Lib.indexByte s.data.toList c.toNat.toUInt8)) ∧ w' = w := by
  go_enter Tryd.func93, Tryd.ntmps93
  go_wp2
  rw [run_callFunc_extern Tryd.func94 (by kernel_rfl) (by kernel_rfl) (by kernel_rfl) (e := Extern.BytealgIndexByte.indexByte) (by kernel_rfl), Lib.run_indexByteString]
  simp only [Result.andThen]
  rw [Oper.upon_value]
  go_wp2
  go_ret
  exact ⟨rfl, rfl⟩

theorem indexByte_any (s : ByteArray) (c : Int) (w : World) :
    Calls Tryd.prog 90 #[.string s, .int .u8 c] w fun e w' => e = .returned (.int .i64 (Lib.indexByte s.data.toList c.toNat.toUInt8)) ∧ w' = w := by
  go_enter Tryd.func90, Tryd.ntmps90
  go_wp2_with (go_at_call 93; refine (liteIndexByte_any _ _ _).mono ?_; rintro e w' ⟨rfl, rfl⟩)
  go_ret
  exact ⟨rfl, rfl⟩

set_option maxRecDepth 100000 in
theorem sign_eq (c : Int) (h0 : 0 ≤ c) (h1 : c ≤ 255) : decide (0 ≤ Lib.indexByte [58, 44, 40, 41, 43, 45, 42, 61] c.toNat.toUInt8) = isSg c := by
  rw [← Lib.contains_iff_indexByte]
  obtain ⟨n, rfl⟩ := Int.eq_ofNat_of_zero_le h0
  have hn : n < 256 := by omega
  clear h0 h1
  simp only [Int.toNat_natCast]
  revert n
  decide

theorem isSign_any (c : Int) (h0 : 0 ≤ c) (h1 : c ≤ 255) (w : World) :
    Calls Tryd.prog 86 #[.int .u8 c] w fun e w' => e = .returned (.bool (isSg c)) ∧ w' = w := by
  rw [← sign_eq c h0 h1]
  go_enter Tryd.func86, Tryd.ntmps86
  go_wp2_with (go_at_call 90; refine (indexByte_any _ _ _).mono ?_; rintro e w' ⟨rfl, rfl⟩)
  go_ret
  exact ⟨rfl, rfl⟩

def hexI (c : Int) : Int := if isDig c then c - 48 else if 97 ≤ c ∧ c ≤ 102 then c - 97 + 10 else -1

theorem refHex_any (c : Int) (w : World) :
    Calls Tryd.prog 45 #[.int .u8 c] w fun e w' => e = .returned (.int .i64 (hexI c)) ∧ w' = w := by
  cases h : isDig c
  · have hn : ¬ (48 ≤ c ∧ c ≤ 57) := by simpa [isDig] using h
    by_cases hx : 97 ≤ c ∧ c ≤ 102
    · have e : hexI c = c - 97 + 10 := by unfold hexI; rw [h, if_neg (by simp), if_pos hx]
      rw [e]
      clear e
      obtain ⟨h1, h2⟩ := hx
      go_enter Tryd.func45, Tryd.ntmps45
      go_wp2_with (go_at_call 32; refine (refDigit_any _ _).mono ?_; rintro e w' ⟨rfl, rfl⟩)
      go_ret
      exact ⟨rfl, rfl⟩
    · have e : hexI c = -1 := by unfold hexI; rw [h, if_neg (by simp), if_neg hx]
      rw [e]
      clear e
      go_enter Tryd.func45, Tryd.ntmps45
      go_wp2_with (go_at_call 32; refine (refDigit_any _ _).mono ?_; rintro e w' ⟨rfl, rfl⟩)
      all_goals
        first
          | omega
          | (go_ret; exact ⟨rfl, rfl⟩)
  · have h1 : 48 ≤ c ∧ c ≤ 57 := by simpa [isDig] using h
    have e : hexI c = c - 48 := by unfold hexI; rw [h]; simp
    rw [e]
    clear e
    go_enter Tryd.func45, Tryd.ntmps45
    go_wp2_with (go_at_call 32; refine (refDigit_any _ _).mono ?_; rintro e w' ⟨rfl, rfl⟩)
    go_ret
    exact ⟨rfl, rfl⟩
end Go.Proofs.YtijdjljnppkhmabDoor
