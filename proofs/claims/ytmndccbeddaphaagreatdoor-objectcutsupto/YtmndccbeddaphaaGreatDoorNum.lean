/- lex.numberAt: the number at a place, and the place behind it. -/
import Derived.Test.YtmndccbeddaphaaGreatDoorRows
import Derived.WalkKit
import Derived.ProofKit
import Derived.OpenShut
import Derived.ShutString
import Derived.ChangeOld
import Derived.Below
import Derived.WalkMore
import Derived.ScopeJumps
import Derived.Lib.Bytealg
import Derived.Lib.IndexAny
import Derived.Lib.Strings
/- A scope whose run jumps among many labels: what it is to go on from a label ('Lands'), one law a jump, one for the scope; proofs by plain induction. -/
namespace Go.Proofs.YtmndccbeddaphaaGreatDoor
open Go.ChangeShapes Go.WideShapes Go.ChangeAt Go.RowKit
set_option linter.unusedVariables false
set_option maxRecDepth 100000

/-- from label l of the scope c on, the run ends by Q -/
def Lands (P : Program) (c : Code) (Q : Exit → Act → World → Prop) (l : Nat) (a : Act) (w : World) : Prop :=
  ∃ rest, findLabel c l = some rest ∧ ∀ (b : Frame) (k : List Item) (cs : List Frame),
    ∃ e a' w', Q e a' w' ∧ Arrives P (lone (b.at a (.code rest :: .inScope c :: k)) cs w) b k cs e a' w'

/-- as Q; by a goto to label l: J l -/
def jumps (J : Nat → Act → World → Prop) (Q : Exit → Act → World → Prop) : Exit → Act → World → Prop
  | .goto l, a, w => J l a w
  | e, a, w => Q e a w

section
variable {P : Program} {Q : Exit → Act → World → Prop} {a : Act} {w : World} {J : Nat → Act → World → Prop}

theorem jumps_ret : jumps J Q .ret a w = Q .ret a w := rfl

theorem arrives_scope {c rest : Code} (h : rest.wp P (jumps (Lands P c Q) Q) a w) (b : Frame) (k : List Item) (cs : List Frame) :
    ∃ e a' w', Q e a' w' ∧ Arrives P (lone (b.at a (.code rest :: .inScope c :: k)) cs w) b k cs e a' w' := by
  obtain ⟨e, a₁, w₁, hq, harr⟩ := h b (.inScope c :: k) cs
  cases e with
  | normal => exact ⟨.normal, a₁, w₁, hq, Steps.trans harr (.one step_inScope)⟩
  | exit id => exact ⟨.exit id, a₁, w₁, hq, fun k' hk => harr k' (by simp [exitTo, hk])⟩
  | goto l =>
    obtain ⟨rest', hf, hrest⟩ := hq
    obtain ⟨e₂, a₂, w₂, hq₂, harr₂⟩ := hrest b k cs
    have hg : gotoIn l (.inScope c :: k) = some (.code rest' :: .inScope c :: k) := by simp [gotoIn, hf]
    exact ⟨e₂, a₂, w₂, hq₂, .of_steps (harr _ hg) harr₂⟩
  | ret => exact ⟨_, a₁, w₁, hq, harr⟩
  | panic ch => exact ⟨_, a₁, w₁, hq, harr⟩
  | outgrown => exact ⟨_, a₁, w₁, hq, harr⟩

theorem Lands.of {c rest : Code} {l : Nat} (hf : findLabel c l = some rest) (h : rest.wp P (jumps (Lands P c Q) Q) a w) : Lands P c Q l a w :=
  ⟨rest, hf, fun b k cs => arrives_scope h b k cs⟩

theorem wp_scope_lands {c : Code} (h : c.wp P (jumps (Lands P c Q) Q) a w) : (Code.scope c).wp P Q a w := by
  intro b k cs
  obtain ⟨e, a', w', hq, harr⟩ := arrives_scope h b k cs
  exact ⟨e, a', w', hq, .of_steps (.one step_scope) harr⟩

/-- the scope that a function's body is, behind the laying of its results -/
def scopeOf (f : Func) : Code := match f.body with | some (.seq _ (.scope c)) => c | _ => .skip

theorem wp_scope_at {c : Code} (f : Func) (hc : scopeOf f = c) (h : c.wp P (jumps (Lands P (scopeOf f) Q) Q) a w) : (Code.scope c).wp P Q a w := by
  subst hc
  exact wp_scope_lands h
end
end Go.Proofs.YtmndccbeddaphaaGreatDoor
/- Contracts of lex's small functions that only compute, and of the document's: kinds of bytes, a digit's number, the byte at a place. -/
namespace Go.Proofs.YtmndccbeddaphaaGreatDoor
open Go.ChangeShapes Go.WideShapes Go.ChangeAt Go.RowKit
set_option linter.unusedVariables false
set_option maxRecDepth 100000

def isBl (c : Int) : Bool := c == 9 || c == 13 || c == 32
def isLet (c : Int) : Bool := decide (97 ≤ c ∧ c ≤ 122) || decide (65 ≤ c ∧ c ≤ 90) || c == 95
def isDig (c : Int) : Bool := decide (48 ≤ c ∧ c ≤ 57)
def inW (c : Int) : Bool := isLet c || isDig c
def isHex (c : Int) : Bool := isDig c || decide (97 ≤ c ∧ c ≤ 102)
def isQuo (c : Int) : Bool := decide (32 ≤ c ∧ c ≤ 126) && c != 39
def isSg (c : Int) : Bool := c == 58 || c == 44 || c == 40 || c == 41 || c == 43 || c == 45 || c == 42 || c == 61
def digI (c : Int) : Int := if 48 ≤ c ∧ c ≤ 57 then c - 48 else c - 97 + 10

/-- the bytes of a text; the byte at a place, 0 past the end -/
def bs (s : ByteArray) : List UInt8 := s.data.toList
def atI (l : List UInt8) (k : Nat) : Int := ((l.getD k 0).toNat : Int)

theorem bs_length (s : ByteArray) : (bs s).length = s.size := (Lib.size_eq s).symm

theorem atI_lo (l : List UInt8) (k : Nat) : 0 ≤ atI l k := by unfold atI; omega
theorem atI_hi (l : List UInt8) (k : Nat) : atI l k ≤ 255 := by
  unfold atI
  have := UInt8.toNat_lt (l.getD k 0)
  omega
theorem atI_out (l : List UInt8) (k : Nat) (h : l.length ≤ k) : atI l k = 0 := by
  unfold atI
  rw [List.getD_eq_getElem?_getD, List.getElem?_eq_none h]
  rfl
theorem atI_drop (l : List UInt8) (a i : Nat) : atI (l.drop a) i = atI l (a + i) := by
  unfold atI
  simp [List.getD_eq_getElem?_getD, List.getElem?_drop]
theorem atI_get (s : ByteArray) (k : Nat) (h : k < s.size) : ((s[k].toNat : Nat) : Int) = atI (bs s) k := by
  unfold atI bs
  have : s.data.toList.getD k 0 = s[k] := by
    rw [List.getD_eq_getElem?_getD]
    have h' : k < s.data.toList.length := by rw [← Lib.size_eq]; exact h
    rw [List.getElem?_eq_getElem h']
    rfl
  rw [this]

theorem ret_bool {x y : Bool} {w : World} (h : x = y) : Ending.returned (.bool x) = Ending.returned (.bool y) ∧ w = w := ⟨by rw [h], rfl⟩

theorem isBlank_any (c : Int) (w : World) :
    Calls Tryz.prog 149 #[.int .u8 c] w fun e w' => e = .returned (.bool (isBl c)) ∧ w' = w := by
  go_enter Tryz.func149, Tryz.ntmps149
  go_wp2
  all_goals
    go_ret
    refine ret_bool ?_
    first
      | rfl
      | (rw [Bool.eq_iff_iff]; simp [isBl]; try omega)

theorem isLetter_any (c : Int) (w : World) :
    Calls Tryz.prog 150 #[.int .u8 c] w fun e w' => e = .returned (.bool (isLet c)) ∧ w' = w := by
  go_enter Tryz.func150, Tryz.ntmps150
  go_wp2
  all_goals
    go_ret
    refine ret_bool ?_
    first
      | rfl
      | (rw [Bool.eq_iff_iff]; simp [isLet]; try omega)

theorem isDigit_any (c : Int) (w : World) :
    Calls Tryz.prog 151 #[.int .u8 c] w fun e w' => e = .returned (.bool (isDig c)) ∧ w' = w := by
  go_enter Tryz.func151, Tryz.ntmps151
  go_wp2
  all_goals
    go_ret
    refine ret_bool ?_
    first
      | rfl
      | (rw [Bool.eq_iff_iff]; simp [isDig]; try omega)

theorem isQuotable_any (c : Int) (w : World) :
    Calls Tryz.prog 180 #[.int .u8 c] w fun e w' => e = .returned (.bool (isQuo c)) ∧ w' = w := by
  go_enter Tryz.func180, Tryz.ntmps180
  go_wp2
  all_goals
    go_ret
    refine ret_bool ?_
    first
      | rfl
      | (rw [Bool.eq_iff_iff]; simp [isQuo]; try omega)

theorem inWord_any (c : Int) (w : World) :
    Calls Tryz.prog 153 #[.int .u8 c] w fun e w' => e = .returned (.bool (inW c)) ∧ w' = w := by
  cases h : isLet c
  all_goals
    go_enter Tryz.func153, Tryz.ntmps153
    go_wp2_with (first
      | (go_at_call 150; refine (isLetter_any _ _).mono ?_; rintro e w' ⟨rfl, rfl⟩)
      | (go_at_call 151; refine (isDigit_any _ _).mono ?_; rintro e w' ⟨rfl, rfl⟩))
    go_ret
    refine ret_bool ?_
    simp [inW, h]

theorem isHexDigit_any (c : Int) (w : World) :
    Calls Tryz.prog 179 #[.int .u8 c] w fun e w' => e = .returned (.bool (isHex c)) ∧ w' = w := by
  cases h : isDig c
  all_goals
    go_enter Tryz.func179, Tryz.ntmps179
    go_wp2_with (go_at_call 151; refine (isDigit_any _ _).mono ?_; rintro e w' ⟨rfl, rfl⟩)
    all_goals
      go_ret
      refine ret_bool ?_
      first
        | rfl
        | (rw [Bool.eq_iff_iff]; simp [isHex, h]; try omega)

theorem digit_any (c : Int) (hc : isHex c = true) (w : World) :
    Calls Tryz.prog 156 #[.int .u8 c] w fun e w' => e = .returned (.int .u64 (digI c)) ∧ w' = w := by
  cases h : isDig c
  · have h1 : 97 ≤ c ∧ c ≤ 102 := by simp [isHex, h] at hc; exact hc
    have h2 : digI c = c - 97 + 10 := by unfold digI; rw [if_neg]; omega
    rw [h2]
    go_enter Tryz.func156, Tryz.ntmps156
    go_wp2_with (go_at_call 151; refine (isDigit_any _ _).mono ?_; rintro e w' ⟨rfl, rfl⟩)
    go_ret
    refine ⟨?_, rfl⟩
    try first | rfl | (congr 2; omega)
  · have h1 : 48 ≤ c ∧ c ≤ 57 := by simpa [isDig] using h
    have h2 : digI c = c - 48 := by unfold digI; rw [if_pos h1]
    rw [h2]
    go_enter Tryz.func156, Tryz.ntmps156
    go_wp2_with (go_at_call 151; refine (isDigit_any _ _).mono ?_; rintro e w' ⟨rfl, rfl⟩)
    go_ret
    refine ⟨?_, rfl⟩
    try first | rfl | (congr 2; omega)

theorem byteAt_any (s : ByteArray) (k : Nat) (hk : k ≤ 4611686018427387904) (hs : s.size ≤ 4611686018427387904) (w : World) :
    Calls Tryz.prog 148 #[.string s, .int .i64 k] w fun e w' => e = .returned (.int .u8 (atI (bs s) k)) ∧ w' = w := by
  by_cases h : s.size ≤ k
  · rw [atI_out _ _ (by rw [bs_length]; exact h)]
    go_enter Tryz.func148, Tryz.ntmps148
    go_wp2
    go_ret
    exact ⟨rfl, rfl⟩
  · have h' : k < s.size := by omega
    rw [← atI_get s k h']
    go_enter Tryz.func148, Tryz.ntmps148
    go_wp2
    go_ret
    exact ⟨rfl, rfl⟩

theorem liteIndexByte_any (s : ByteArray) (c : Int) (w : World) :
    Calls Tryz.prog 193 #[.string s, .int .u8 c] w fun e w' => e = .returned (.int .i64 (Lib.indexByte s.data.toList c.toNat.toUInt8)) ∧ w' = w := by
  go_enter Tryz.func193, Tryz.ntmps193
  go_wp2
  rw [run_callFunc_extern Tryz.func197 (by kernel_rfl) (by kernel_rfl) (by kernel_rfl) (e := Extern.BytealgIndexByte.indexByte) (by kernel_rfl), Lib.run_indexByteString]
  simp only [Result.andThen]
  rw [Oper.upon_value]
  go_wp2
  go_ret
  exact ⟨rfl, rfl⟩

theorem indexByte_any (s : ByteArray) (c : Int) (w : World) :
    Calls Tryz.prog 178 #[.string s, .int .u8 c] w fun e w' => e = .returned (.int .i64 (Lib.indexByte s.data.toList c.toNat.toUInt8)) ∧ w' = w := by
  go_enter Tryz.func178, Tryz.ntmps178
  go_wp2_with (go_at_call 193; refine (liteIndexByte_any _ _ _).mono ?_; rintro e w' ⟨rfl, rfl⟩)
  go_ret
  exact ⟨rfl, rfl⟩

set_option maxRecDepth 100000 in
theorem sign_eq (c : Int) (h0 : 0 ≤ c) (h1 : c ≤ 255) : decide (0 ≤ Lib.indexByte [58, 44, 40, 41, 43, 45, 42, 61] c.toNat.toUInt8) = isSg c := by
  rw [← Lib.contains_iff_indexByte]
  obtain ⟨n, rfl⟩ := Int.eq_ofNat_of_zero_le h0
  have hn : n < 256 := by omega
  clear h0 h1
  simp only [Int.toNat_natCast]
  revert n
  decide

theorem isSign_any (c : Int) (h0 : 0 ≤ c) (h1 : c ≤ 255) (w : World) :
    Calls Tryz.prog 152 #[.int .u8 c] w fun e w' => e = .returned (.bool (isSg c)) ∧ w' = w := by
  rw [← sign_eq c h0 h1]
  go_enter Tryz.func152, Tryz.ntmps152
  go_wp2_with (go_at_call 178; refine (indexByte_any _ _ _).mono ?_; rintro e w' ⟨rfl, rfl⟩)
  go_ret
  exact ⟨rfl, rfl⟩

end Go.Proofs.YtmndccbeddaphaaGreatDoor
/- What a number, a token and the tokens of a text are, as functions on its bytes. -/
namespace Go.Proofs.YtmndccbeddaphaaGreatDoor
set_option linter.unusedVariables false
set_option maxRecDepth 100000

/-- how many bytes of a kind stand at the head -/
def lenW (p : Int → Bool) (r : List UInt8) : Nat := (r.takeWhile fun b => p (b.toNat : Int)).length

theorem atI_zero_cons (b : UInt8) (r : List UInt8) : atI (b :: r) 0 = (b.toNat : Int) := rfl
theorem atI_nil (k : Nat) : atI [] k = 0 := by simp [atI]

theorem lenW_stop (p : Int → Bool) (r : List UInt8) (h : p (atI r 0) = false) : lenW p r = 0 := by
  cases r with
  | nil => rfl
  | cons b r => simp [lenW, List.takeWhile, atI_zero_cons] at h ⊢; simp [h]

theorem lenW_more (p : Int → Bool) (hp : p 0 = false) (r : List UInt8) (h : p (atI r 0) = true) : lenW p r = lenW p (r.drop 1) + 1 ∧ 0 < r.length := by
  cases r with
  | nil => rw [atI_nil, hp] at h; cases h
  | cons b r => simp [lenW, List.takeWhile, atI_zero_cons] at h ⊢; simp [h]

theorem lenW_le (p : Int → Bool) (r : List UInt8) : lenW p r ≤ r.length := by
  unfold lenW
  exact (List.takeWhile_sublist _).length_le

theorem lenW_take (p : Int → Bool) (r : List UInt8) : r.takeWhile (fun b => p (b.toNat : Int)) = r.take (lenW p r) := by
  unfold lenW
  induction r with
  | nil => rfl
  | cons b r ih =>
    simp only [List.takeWhile]
    split
    · simp; exact ih
    · simp

theorem take_all (p : Int → Bool) (r : List UInt8) : ∀ b ∈ r.take (lenW p r), p (b.toNat : Int) = true := by
  rw [← lenW_take]
  induction r with
  | nil => intro b hb; simp at hb
  | cons x r ih =>
    intro b hb
    cases hx : p (x.toNat : Int)
    · simp [List.takeWhile, hx] at hb
    · simp only [List.takeWhile, hx, List.mem_cons] at hb
      rcases hb with rfl | hb
      · exact hx
      · exact ih b hb

theorem inW_zero : inW 0 = false := rfl
theorem isDig_zero : isDig 0 = false := rfl
theorem isHex_zero : isHex 0 = false := rfl

/-- the number that digits are, behind a number -/
def val (base : Int) (n : Int) (ds : List UInt8) : Int := ds.foldl (fun n b => base * n + digI (b.toNat : Int)) n

theorem digI_lo (c : Int) (h : isHex c = true) : 0 ≤ digI c ∧ digI c ≤ 15 := by
  simp [isHex, isDig] at h
  unfold digI
  split <;> omega
theorem digI_dig (c : Int) (h : isDig c = true) : 0 ≤ digI c ∧ digI c ≤ 9 := by
  simp [isDig] at h
  unfold digI
  rw [if_pos h]
  omega
theorem isHex_of_dig (c : Int) (h : isDig c = true) : isHex c = true := by simp [isHex, h]
theorem val_cons (base n : Int) (b : UInt8) (ds : List UInt8) : val base n (b :: ds) = val base (base * n + digI (b.toNat : Int)) ds := rfl
theorem val_nil (base n : Int) : val base n [] = n := rfl
theorem val_ge (n : Int) (ds : List UInt8) (hn : 0 ≤ n) (h : ∀ b ∈ ds, isDig (b.toNat : Int) = true) : n ≤ val 10 n ds := by
  induction ds generalizing n with
  | nil => exact Int.le_refl _
  | cons b ds ih =>
    have hb := digI_dig _ (h b (by simp))
    rw [val_cons]
    have := ih (10 * n + digI (b.toNat : Int)) (by omega) (fun x hx => h x (by simp [hx]))
    omega

/-- one digit more at the head -/
theorem take_more (p : Int → Bool) (hp : p 0 = false) (r : List UInt8) (h : p (atI r 0) = true) (base n : Int) :
    val base n (r.take (lenW p r)) = val base (base * n + digI (atI r 0)) ((r.drop 1).take (lenW p (r.drop 1))) := by
  cases r with
  | nil => rw [atI_nil, hp] at h; cases h
  | cons b r =>
    rw [(lenW_more p hp _ h).1]
    simp only [List.drop_one, List.tail_cons, List.take_succ_cons]
    rw [val_cons, atI_zero_cons]

/-- how many of the digits 0 to f stand at the head, k at most -/
def hexLen (k : Nat) (r : List UInt8) : Nat := min k (lenW isHex r)

theorem hexLen_stop (k : Nat) (r : List UInt8) (h : isHex (atI r 0) = false ∨ k = 0) : hexLen k r = 0 := by
  unfold hexLen
  rcases h with h | h
  · rw [lenW_stop _ _ h]; simp
  · simp [h]
theorem hexLen_more (k : Nat) (r : List UInt8) (h : isHex (atI r 0) = true) : hexLen (k + 1) r = hexLen k (r.drop 1) + 1 := by
  unfold hexLen
  rw [(lenW_more _ isHex_zero _ h).1]
  omega
theorem hexTake_more (k : Nat) (r : List UInt8) (h : isHex (atI r 0) = true) (n : Int) :
    val 16 n (r.take (hexLen (k + 1) r)) = val 16 (16 * n + digI (atI r 0)) ((r.drop 1).take (hexLen k (r.drop 1))) := by
  rw [hexLen_more k r h]
  cases r with
  | nil => rw [atI_nil, isHex_zero] at h; cases h
  | cons b r => simp only [List.drop_one, List.tail_cons, List.take_succ_cons, val_cons, atI_zero_cons]

/-- the number that begins at the head, and how many bytes it has -/
def numAt (r : List UInt8) : Option (Int × Nat) :=
  if atI r 0 = 39 then (if isQuo (atI r 1) = true ∧ atI r 2 = 39 then some (atI r 1, 3) else none)
  else if atI r 0 = 48 ∧ atI r 1 = 120 then
    (if hexLen 8 (r.drop 2) = 0 ∨ inW (atI r (2 + hexLen 8 (r.drop 2))) = true then none else some (val 16 0 ((r.drop 2).take (hexLen 8 (r.drop 2))), 2 + hexLen 8 (r.drop 2)))
  else if atI r 0 = 48 then (if inW (atI r 1) = true then none else some (0, 1))
  else (if 4294967295 < val 10 0 (r.take (lenW isDig r)) ∨ inW (atI r (lenW isDig r)) = true then none else some (val 10 0 (r.take (lenW isDig r)), lenW isDig r))

def numN (r : List UInt8) : Int := match numAt r with | some (n, _) => n | none => 0
def numL (r : List UInt8) : Nat := match numAt r with | some (_, k) => k | none => 0

theorem hex_step (i : Nat) (n d : Int) (hi : i < 8) (n0 : 0 ≤ n) (n1 : n < 16 ^ i) (d0 : 0 ≤ d) (d1 : d ≤ 15) : 0 ≤ 16 * n + d ∧ 16 * n + d < 16 ^ (i + 1) ∧ 16 * n + d ≤ 4294967295 := by
  have : i = 0 ∨ i = 1 ∨ i = 2 ∨ i = 3 ∨ i = 4 ∨ i = 5 ∨ i = 6 ∨ i = 7 := by omega
  rcases this with rfl | rfl | rfl | rfl | rfl | rfl | rfl | rfl <;> simp at n1 ⊢ <;> omega
theorem hex_small (i : Nat) (n : Int) (hi : i ≤ 8) (n1 : n < 16 ^ i) : n ≤ 4294967295 := by
  have : i = 0 ∨ i = 1 ∨ i = 2 ∨ i = 3 ∨ i = 4 ∨ i = 5 ∨ i = 6 ∨ i = 7 ∨ i = 8 := by omega
  rcases this with rfl | rfl | rfl | rfl | rfl | rfl | rfl | rfl | rfl <;> simp at n1 ⊢ <;> omega

/-- what is answered of a number: none, if it is bad; else it, and the place behind it -/
def Res (N T : Int) (at_ : Nat) (bad : Prop) (v : Int) (k : Nat) : Prop := (bad → N = 0 ∧ T = (at_ : Int)) ∧ (¬ bad → N = v ∧ T = (k : Int))

theorem Res.bad {N T : Int} {at_ : Nat} {bad : Prop} {v : Int} {k : Nat} (h : Res N T at_ bad v k) (hb : bad) : N = 0 ∧ T = (at_ : Int) := h.1 hb
theorem Res.good {N T : Int} {at_ : Nat} {bad : Prop} {v : Int} {k : Nat} (h : Res N T at_ bad v k) (hb : ¬ bad) : N = v ∧ T = (k : Int) := h.2 hb
theorem Res.turn {N T : Int} {at_ : Nat} {bad bad' : Prop} {v v' : Int} {k k' : Nat} (h : Res N T at_ bad v k) (hb : bad' ↔ bad) (hv : v' = v) (hk : k' = k) : Res N T at_ bad' v' k' := by
  subst hv hk
  exact ⟨fun x => h.1 (hb.1 x), fun x => h.2 fun y => x (hb.2 y)⟩

/-- a token: its kind, its bytes, its number, its place -/
structure Tok where
  kind : Int
  text : List UInt8
  num : Int
  place : Nat

/-- the token that begins at the head: its kind, its number, how many bytes it has -/
def tokAt (r : List UInt8) : Option (Int × Int × Nat) :=
  if isLet (atI r 0) = true then (if lenW inW r ≤ 32 then some (1, 0, lenW inW r) else none)
  else if isDig (atI r 0) = true ∨ atI r 0 = 39 then
    (if numL r = 0 then none else some (2, numN r, numL r))
  else if isSg (atI r 0) = true then some (3, 0, 1)
  else none

/-- the tokens of a text that begins at a place, or the place of the first byte that begins none -/
def scan (r : List UInt8) (at_ : Nat) : Except Nat (List Tok) :=
  match r with
  | [] => .ok []
  | b :: r' =>
    if (b.toNat : Int) = 59 then .ok []
    else if isBl (b.toNat : Int) = true then scan r' (at_ + 1)
    else match tokAt (b :: r') with
      | none => .error at_
      | some (kind, n, k) =>
        match scan (r'.drop (k - 1)) (at_ + k) with
        | .ok ts => .ok ({ kind := kind, text := (b :: r').take k, num := n, place := at_ } :: ts)
        | .error p => .error p
  termination_by r.length
  decreasing_by all_goals simp; try omega
end Go.Proofs.YtmndccbeddaphaaGreatDoor
namespace Go.Proofs.YtmndccbeddaphaaGreatDoor
open Go.ChangeShapes Go.WideShapes Go.ChangeAt Go.RowKit
set_option linter.unusedVariables false
set_option maxRecDepth 100000

theorem Hid.intro {p : Prop} (h : p) : Hid p := h
def Q28 (N T : Int) (w : World) : Exit → Act → World → Prop := bodyPost Tryz.prog Tryz.f154 fun e w' => e = .returned (.tuple #[.int .u32 N, .int .i64 T]) ∧ w' = w

theorem byteAt_int (s : ByteArray) (z : Int) (h0 : 0 ≤ z) (hk : z ≤ 4611686018427387904) (hs : s.size ≤ 4611686018427387904) (w : World) :
    Calls Tryz.prog 148 #[.string s, .int .i64 z] w fun e w' => e = .returned (.int .u8 (atI (bs s) z.toNat)) ∧ w' = w := by
  obtain ⟨k, rfl⟩ := Int.eq_ofNat_of_zero_le h0
  exact byteAt_any s k (by omega) hs w

theorem none_lands (s : ByteArray) (at_ : Nat) (N T : Int) (w : World) (hN : N = 0) (hT : T = at_) {u2 u3 u4 u5 u6 u7 u8 u9 u10 u11 u12 u13 u14 u15 u16 u17 u18 u19 u20 u21 u22 u23 u24 u25 u26 u27 u28 u29 u30 u31 u32 u33 u34 u35 u36 u37 u38 u39 u40 u41 u42 u43 u44 u45 u46 u47 u48 u49 u50 u51 u52 u53 u54 u55 u56 u57 u58 u59 u60 u61 u62 u63 u64 u65 u66 u67 u68 u69 u70 u71 u72 u73 u74 u75 u76 u77 u78 u79 u80 u81 u82 u83 u84 u85 u86 u87 u88 u89 u90 u91 u92 u93 u94 u95 u96 u97 u98 u99 : Value} :
    Lands Tryz.prog (scopeOf Tryz.f154) (Q28 N T w) 3 { tmps := List.toArray (.string s :: .int .i64 (at_ : Int) :: u2 :: u3 :: u4 :: u5 :: u6 :: u7 :: u8 :: u9 :: u10 :: u11 :: u12 :: u13 :: u14 :: u15 :: u16 :: u17 :: u18 :: u19 :: u20 :: u21 :: u22 :: u23 :: u24 :: u25 :: u26 :: u27 :: u28 :: u29 :: u30 :: u31 :: u32 :: u33 :: u34 :: u35 :: u36 :: u37 :: u38 :: u39 :: u40 :: u41 :: u42 :: u43 :: u44 :: u45 :: u46 :: u47 :: u48 :: u49 :: u50 :: u51 :: u52 :: u53 :: u54 :: u55 :: u56 :: u57 :: u58 :: u59 :: u60 :: u61 :: u62 :: u63 :: u64 :: u65 :: u66 :: u67 :: u68 :: u69 :: u70 :: u71 :: u72 :: u73 :: u74 :: u75 :: u76 :: u77 :: u78 :: u79 :: u80 :: u81 :: u82 :: u83 :: u84 :: u85 :: u86 :: u87 :: u88 :: u89 :: u90 :: u91 :: u92 :: u93 :: u94 :: u95 :: u96 :: u97 :: u98 :: u99 :: []), defers := [] } w := by
  subst hN hT
  refine Lands.of rfl ?_
  go_wp2
  rw [jumps_ret]
  unfold Q28
  go_ret2
  exact ⟨rfl, rfl⟩

theorem behind_lands (s : ByteArray) (at_ k : Nat) (n to_ N T : Int) (w : World) (hk : to_ = k) (ht : to_ ≤ 4611686018427387904) (hs : s.size ≤ 4611686018427387904) (n0 : 0 ≤ n) (n1 : n ≤ 4294967295)
    (hR : Res N T at_ (inW (atI (bs s) k) = true) n k) {u2 u3 u4 u5 u8 u9 u10 u11 u12 u13 u14 u15 u16 u17 u18 u19 u20 u21 u22 u23 u24 u25 u26 u27 u28 u29 u30 u31 u32 u33 u34 u35 u36 u37 u38 u39 u40 u41 u42 u43 u44 u45 u46 u47 u48 u49 u50 u51 u52 u53 u54 u55 u56 u57 u58 u59 u60 u61 u62 u63 u64 u65 u66 u67 u68 u69 u70 u71 u72 u73 u74 u75 u76 u77 u78 u79 u80 u81 u82 u83 u84 u85 u86 u87 u88 u89 u90 u91 u92 u93 u94 u95 u96 u97 u98 u99 : Value} :
    Lands Tryz.prog (scopeOf Tryz.f154) (Q28 N T w) 2 { tmps := List.toArray (.string s :: .int .i64 (at_ : Int) :: u2 :: u3 :: u4 :: u5 :: .int .u64 n :: .int .i64 to_ :: u8 :: u9 :: u10 :: u11 :: u12 :: u13 :: u14 :: u15 :: u16 :: u17 :: u18 :: u19 :: u20 :: u21 :: u22 :: u23 :: u24 :: u25 :: u26 :: u27 :: u28 :: u29 :: u30 :: u31 :: u32 :: u33 :: u34 :: u35 :: u36 :: u37 :: u38 :: u39 :: u40 :: u41 :: u42 :: u43 :: u44 :: u45 :: u46 :: u47 :: u48 :: u49 :: u50 :: u51 :: u52 :: u53 :: u54 :: u55 :: u56 :: u57 :: u58 :: u59 :: u60 :: u61 :: u62 :: u63 :: u64 :: u65 :: u66 :: u67 :: u68 :: u69 :: u70 :: u71 :: u72 :: u73 :: u74 :: u75 :: u76 :: u77 :: u78 :: u79 :: u80 :: u81 :: u82 :: u83 :: u84 :: u85 :: u86 :: u87 :: u88 :: u89 :: u90 :: u91 :: u92 :: u93 :: u94 :: u95 :: u96 :: u97 :: u98 :: u99 :: []), defers := [] } w := by
  have htn : to_.toNat = k := by omega
  have ht0 : 0 ≤ to_ := by omega
  rw [← htn] at hR
  cases hin : inW (atI (bs s) to_.toNat)
  · obtain ⟨hN, hT0⟩ := hR.good (by rw [hin]; simp)
    have hT : T = to_ := by omega
    clear hR htn hk hT0
    subst hN hT
    refine Lands.of rfl ?_
    go_wp2_with (first
      | (go_at_call 148; refine (byteAt_int _ _ (by omega) (by omega) (by assumption) _).mono ?_; rintro e w' ⟨rfl, rfl⟩)
      | (go_at_call 153; refine (inWord_any _ _).mono ?_; rintro e w' ⟨rfl, rfl⟩)
      | (go_at_call 151; refine (isDigit_any _ _).mono ?_; rintro e w' ⟨rfl, rfl⟩)
      | (go_at_call 179; refine (isHexDigit_any _ _).mono ?_; rintro e w' ⟨rfl, rfl⟩)
      | (go_at_call 180; refine (isQuotable_any _ _).mono ?_; rintro e w' ⟨rfl, rfl⟩)
      | (go_at_call 156; refine (digit_any _ (by assumption) _).mono ?_; rintro e w' ⟨rfl, rfl⟩))
    rw [jumps_ret]
    unfold Q28
    go_ret2
    exact ⟨rfl, rfl⟩
  · obtain ⟨hN, hT⟩ := hR.bad hin
    clear hR htn hk
    refine Lands.of rfl ?_
    go_wp2_with (first
      | (go_at_call 148; refine (byteAt_int _ _ (by omega) (by omega) (by assumption) _).mono ?_; rintro e w' ⟨rfl, rfl⟩)
      | (go_at_call 153; refine (inWord_any _ _).mono ?_; rintro e w' ⟨rfl, rfl⟩)
      | (go_at_call 151; refine (isDigit_any _ _).mono ?_; rintro e w' ⟨rfl, rfl⟩)
      | (go_at_call 179; refine (isHexDigit_any _ _).mono ?_; rintro e w' ⟨rfl, rfl⟩)
      | (go_at_call 180; refine (isQuotable_any _ _).mono ?_; rintro e w' ⟨rfl, rfl⟩)
      | (go_at_call 156; refine (digit_any _ (by assumption) _).mono ?_; rintro e w' ⟨rfl, rfl⟩))
    go_step3
    exact none_lands s at_ _ _ _ hN hT

theorem dec_lands (s : ByteArray) (at_ : Nat) (N T : Int) (w : World) (hs : s.size ≤ 4611686018427387800) :
    ∀ (m k : Nat) (to_ n : Int), to_ = k → k ≤ s.size → lenW isDig ((bs s).drop k) = m → 0 ≤ n → n ≤ 4294967295 →
    Res N T at_ (4294967295 < val 10 n (((bs s).drop k).take m) ∨ inW (atI (bs s) (k + m)) = true) (val 10 n (((bs s).drop k).take m)) (k + m) →
    ∀ {u2 u3 u4 u5 u8 u9 u10 u11 u12 u13 u14 u15 u16 u17 u18 u19 u20 u21 u22 u23 u24 u25 u26 u27 u28 u29 u30 u31 u32 u33 u34 u35 u36 u37 u38 u39 u40 u41 u42 u43 u44 u45 u46 u47 u48 u49 u50 u51 u52 u53 u54 u55 u56 u57 u58 u59 u60 u61 u62 u63 u64 u65 u66 u67 u68 u69 u70 u71 u72 u73 u74 u75 u76 u77 u78 u79 u80 u81 u82 u83 u84 u85 u86 u87 u88 u89 u90 u91 u92 u93 u94 u95 u96 u97 u98 u99 : Value}, Lands Tryz.prog (scopeOf Tryz.f154) (Q28 N T w) 4 { tmps := List.toArray (.string s :: .int .i64 (at_ : Int) :: u2 :: u3 :: u4 :: u5 :: .int .u64 n :: .int .i64 to_ :: u8 :: u9 :: u10 :: u11 :: u12 :: u13 :: u14 :: u15 :: u16 :: u17 :: u18 :: u19 :: u20 :: u21 :: u22 :: u23 :: u24 :: u25 :: u26 :: u27 :: u28 :: u29 :: u30 :: u31 :: u32 :: u33 :: u34 :: u35 :: u36 :: u37 :: u38 :: u39 :: u40 :: u41 :: u42 :: u43 :: u44 :: u45 :: u46 :: u47 :: u48 :: u49 :: u50 :: u51 :: u52 :: u53 :: u54 :: u55 :: u56 :: u57 :: u58 :: u59 :: u60 :: u61 :: u62 :: u63 :: u64 :: u65 :: u66 :: u67 :: u68 :: u69 :: u70 :: u71 :: u72 :: u73 :: u74 :: u75 :: u76 :: u77 :: u78 :: u79 :: u80 :: u81 :: u82 :: u83 :: u84 :: u85 :: u86 :: u87 :: u88 :: u89 :: u90 :: u91 :: u92 :: u93 :: u94 :: u95 :: u96 :: u97 :: u98 :: u99 :: []), defers := [] } w := by
  intro m
  induction m with
  | zero =>
    intro k to_ n hk hks hm n0 n1 hR
    intros
    have ht : to_.toNat = k := by omega
    have hd : isDig (atI (bs s) to_.toNat) = false := by
      cases h : isDig (atI (bs s) to_.toNat)
      · rfl
      · rw [ht] at h
        have := (lenW_more isDig isDig_zero ((bs s).drop k) (by rw [atI_drop]; exact h)).1
        omega
    have hs2 : s.size ≤ 4611686018427387904 := by omega
    rw [List.take_zero, val_nil, Nat.add_zero] at hR
    have hR2 := Hid.intro (hR.turn (bad' := inW (atI (bs s) k) = true) ⟨fun h => Or.inr h, fun h => h.resolve_left (by omega)⟩ rfl rfl)
    have h0 : 0 ≤ to_ := by omega
    have h1 : to_ ≤ 4611686018427387850 := by omega
    have hH := Hid.intro hk
    clear hR hm ht hk
    refine Lands.of rfl ?_
    go_wp2_with (first
      | (go_at_call 148; refine (byteAt_int _ _ (by omega) (by omega) (by assumption) _).mono ?_; rintro e w' ⟨rfl, rfl⟩)
      | (go_at_call 153; refine (inWord_any _ _).mono ?_; rintro e w' ⟨rfl, rfl⟩)
      | (go_at_call 151; refine (isDigit_any _ _).mono ?_; rintro e w' ⟨rfl, rfl⟩)
      | (go_at_call 179; refine (isHexDigit_any _ _).mono ?_; rintro e w' ⟨rfl, rfl⟩)
      | (go_at_call 180; refine (isQuotable_any _ _).mono ?_; rintro e w' ⟨rfl, rfl⟩)
      | (go_at_call 156; refine (digit_any _ (by assumption) _).mono ?_; rintro e w' ⟨rfl, rfl⟩))
    go_step3
    exact behind_lands s at_ k n to_ N T _ hH.out (by omega) hs2 n0 n1 hR2.out
  | succ m ih =>
    intro k to_ n hk hks hm n0 n1 hR
    intros
    have ht : to_.toNat = k := by omega
    have hd : isDig (atI (bs s) to_.toNat) = true := by
      cases h : isDig (atI (bs s) to_.toNat)
      · rw [ht] at h
        have := lenW_stop isDig ((bs s).drop k) (by rw [atI_drop]; exact h)
        omega
      · rfl
    have hx := isHex_of_dig _ hd
    obtain ⟨d0, d1⟩ := digI_dig _ hd
    have hhead : isDig (atI ((bs s).drop k) 0) = true := by rw [atI_drop]; rw [ht] at hd; exact hd
    obtain ⟨hl1, hl2⟩ := lenW_more isDig isDig_zero ((bs s).drop k) hhead
    rw [List.drop_drop] at hl1
    rw [List.length_drop, bs_length] at hl2
    have hm' : lenW isDig ((bs s).drop (k + 1)) = m := by omega
    have hv := take_more isDig isDig_zero ((bs s).drop k) hhead 10 n
    rw [hm, List.drop_drop, hm', atI_drop] at hv
    simp only [Nat.add_zero] at hv
    rw [hv, show k + (m + 1) = k + 1 + m by omega] at hR
    have hs2 : s.size ≤ 4611686018427387904 := by omega
    have h0 : 0 ≤ to_ := by omega
    have h1 : to_ ≤ 4611686018427387850 := by omega
    have hge := val_ge (10 * n + digI (atI (bs s) k)) (((bs s).drop (k + 1)).take m) (by rw [ht] at d0; omega) (by rw [← hm']; exact take_all _ _)
    obtain ⟨c, hc⟩ : ∃ c, c = atI (bs s) k := ⟨_, rfl⟩
    rw [ht, ← hc] at hd hx d0 d1
    rw [← hc] at hR hge
    have hH := Hid.intro hk
    have hH2 := Hid.intro hR
    have hH3 := Hid.intro hge
    have hc' : atI (bs s) to_.toNat = c := by rw [ht, hc]
    clear hR hm ht hk hge hl1 hhead hv hc
    refine Lands.of rfl ?_
    go_wp2_with (first
      | (go_at_call 148; refine (byteAt_int _ _ (by omega) (by omega) (by assumption) _).mono ?_; rintro e w' ⟨rfl, rfl⟩)
      | (go_at_call 153; refine (inWord_any _ _).mono ?_; rintro e w' ⟨rfl, rfl⟩)
      | (go_at_call 151; refine (isDigit_any _ _).mono ?_; rintro e w' ⟨rfl, rfl⟩)
      | (go_at_call 179; refine (isHexDigit_any _ _).mono ?_; rintro e w' ⟨rfl, rfl⟩)
      | (go_at_call 180; refine (isQuotable_any _ _).mono ?_; rintro e w' ⟨rfl, rfl⟩)
      | (go_at_call 156; refine (digit_any _ (by assumption) _).mono ?_; rintro e w' ⟨rfl, rfl⟩))
    · go_step3
      have hge := hH3.out
      obtain ⟨hN, hT⟩ := hH2.out.bad (Or.inl (by omega))
      exact none_lands s at_ _ _ _ hN hT
    · go_step3
      have hk := hH.out
      exact ih (k + 1) _ _ (by omega) (by omega) hm' (by omega) (by omega) hH2.out
end Go.Proofs.YtmndccbeddaphaaGreatDoor
