/- lex.numberAt: digits of 0 to f, and one byte between quotes; the contract. -/
import Derived.Test.YtmndccbeddaphaaGreatDoorRows
import Derived.WalkKit
import Derived.ProofKit
import Derived.OpenShut
import Derived.ShutString
import Derived.ChangeOld
import Derived.Below
import Derived.WalkMore
import Derived.ScopeJumps
import Derived.Lib.Bytealg
import Derived.Lib.IndexAny
import Derived.Lib.Strings
/- A scope whose run jumps among many labels: what it is to go on from a label ('Lands'), one law a jump, one for the scope; proofs by plain induction. -/
namespace Go.Proofs.YtmndccbeddaphaaGreatDoor
open Go.ChangeShapes Go.WideShapes Go.ChangeAt Go.RowKit
set_option linter.unusedVariables false
set_option maxRecDepth 100000
def Lands (P : Program) (c : Code) (Q : Exit → Act → World → Prop) (l : Nat) (a : Act) (w : World) : Prop :=
  ∃ rest, findLabel c l = some rest ∧ ∀ (b : Frame) (k : List Item) (cs : List Frame),
    ∃ e a' w', Q e a' w' ∧ Arrives P (lone (b.at a (.code rest :: .inScope c :: k)) cs w) b k cs e a' w'
def jumps (J : Nat → Act → World → Prop) (Q : Exit → Act → World → Prop) : Exit → Act → World → Prop
  | .goto l, a, w => J l a w
  | e, a, w => Q e a w
section
variable {P : Program} {Q : Exit → Act → World → Prop} {a : Act} {w : World} {J : Nat → Act → World → Prop}
theorem jumps_ret : jumps J Q .ret a w = Q .ret a w := rfl
theorem arrives_scope {c rest : Code} (h : rest.wp P (jumps (Lands P c Q) Q) a w) (b : Frame) (k : List Item) (cs : List Frame) :
    ∃ e a' w', Q e a' w' ∧ Arrives P (lone (b.at a (.code rest :: .inScope c :: k)) cs w) b k cs e a' w' := by
  obtain ⟨e, a₁, w₁, hq, harr⟩ := h b (.inScope c :: k) cs
  cases e with
  | normal => exact ⟨.normal, a₁, w₁, hq, Steps.trans harr (.one step_inScope)⟩
  | exit id => exact ⟨.exit id, a₁, w₁, hq, fun k' hk => harr k' (by simp [exitTo, hk])⟩
  | goto l =>
    obtain ⟨rest', hf, hrest⟩ := hq
    obtain ⟨e₂, a₂, w₂, hq₂, harr₂⟩ := hrest b k cs
    have hg : gotoIn l (.inScope c :: k) = some (.code rest' :: .inScope c :: k) := by simp [gotoIn, hf]
    exact ⟨e₂, a₂, w₂, hq₂, .of_steps (harr _ hg) harr₂⟩
  | ret => exact ⟨_, a₁, w₁, hq, harr⟩
  | panic ch => exact ⟨_, a₁, w₁, hq, harr⟩
  | outgrown => exact ⟨_, a₁, w₁, hq, harr⟩
theorem Lands.of {c rest : Code} {l : Nat} (hf : findLabel c l = some rest) (h : rest.wp P (jumps (Lands P c Q) Q) a w) : Lands P c Q l a w :=
  ⟨rest, hf, fun b k cs => arrives_scope h b k cs⟩
theorem wp_scope_lands {c : Code} (h : c.wp P (jumps (Lands P c Q) Q) a w) : (Code.scope c).wp P Q a w := by
  intro b k cs
  obtain ⟨e, a', w', hq, harr⟩ := arrives_scope h b k cs
  exact ⟨e, a', w', hq, .of_steps (.one step_scope) harr⟩
def scopeOf (f : Func) : Code := match f.body with | some (.seq _ (.scope c)) => c | _ => .skip
theorem wp_scope_at {c : Code} (f : Func) (hc : scopeOf f = c) (h : c.wp P (jumps (Lands P (scopeOf f) Q) Q) a w) : (Code.scope c).wp P Q a w := by
  subst hc
  exact wp_scope_lands h
end
end Go.Proofs.YtmndccbeddaphaaGreatDoor
/- Contracts of lex's small functions that only compute, and of the document's: kinds of bytes, a digit's number, the byte at a place. -/
namespace Go.Proofs.YtmndccbeddaphaaGreatDoor
open Go.ChangeShapes Go.WideShapes Go.ChangeAt Go.RowKit
set_option linter.unusedVariables false
set_option maxRecDepth 100000
def isBl (c : Int) : Bool := c == 9 || c == 13 || c == 32
def isLet (c : Int) : Bool := decide (97 ≤ c ∧ c ≤ 122) || decide (65 ≤ c ∧ c ≤ 90) || c == 95
def isDig (c : Int) : Bool := decide (48 ≤ c ∧ c ≤ 57)
def inW (c : Int) : Bool := isLet c || isDig c
def isHex (c : Int) : Bool := isDig c || decide (97 ≤ c ∧ c ≤ 102)
def isQuo (c : Int) : Bool := decide (32 ≤ c ∧ c ≤ 126) && c != 39
def isSg (c : Int) : Bool := c == 58 || c == 44 || c == 40 || c == 41 || c == 43 || c == 45 || c == 42 || c == 61
def digI (c : Int) : Int := if 48 ≤ c ∧ c ≤ 57 then c - 48 else c - 97 + 10
def bs (s : ByteArray) : List UInt8 := s.data.toList
def atI (l : List UInt8) (k : Nat) : Int := ((l.getD k 0).toNat : Int)
theorem bs_length (s : ByteArray) : (bs s).length = s.size := (Lib.size_eq s).symm
theorem atI_lo (l : List UInt8) (k : Nat) : 0 ≤ atI l k := by unfold atI; omega
theorem atI_hi (l : List UInt8) (k : Nat) : atI l k ≤ 255 := by
  unfold atI
  have := UInt8.toNat_lt (l.getD k 0)
  omega
theorem atI_out (l : List UInt8) (k : Nat) (h : l.length ≤ k) : atI l k = 0 := by
  unfold atI
  rw [List.getD_eq_getElem?_getD, List.getElem?_eq_none h]
  rfl
theorem atI_drop (l : List UInt8) (a i : Nat) : atI (l.drop a) i = atI l (a + i) := by
  unfold atI
  simp [List.getD_eq_getElem?_getD, List.getElem?_drop]
theorem atI_get (s : ByteArray) (k : Nat) (h : k < s.size) : ((s[k].toNat : Nat) : Int) = atI (bs s) k := by
  unfold atI bs
  have : s.data.toList.getD k 0 = s[k] := by
    rw [List.getD_eq_getElem?_getD]
    have h' : k < s.data.toList.length := by rw [← Lib.size_eq]; exact h
    rw [List.getElem?_eq_getElem h']
    rfl
  rw [this]
theorem ret_bool {x y : Bool} {w : World} (h : x = y) : Ending.returned (.bool x) = Ending.returned (.bool y) ∧ w = w := ⟨by rw [h], rfl⟩
theorem isBlank_any (c : Int) (w : World) :
    Calls Tryz.prog 149 #[.int .u8 c] w fun e w' => e = .returned (.bool (isBl c)) ∧ w' = w := by
  go_enter Tryz.func149, Tryz.ntmps149
  go_wp2
  all_goals
    go_ret
    refine ret_bool ?_
    first
      | rfl
      | (rw [Bool.eq_iff_iff]; simp [isBl]; try omega)
theorem isLetter_any (c : Int) (w : World) :
    Calls Tryz.prog 150 #[.int .u8 c] w fun e w' => e = .returned (.bool (isLet c)) ∧ w' = w := by
  go_enter Tryz.func150, Tryz.ntmps150
  go_wp2
  all_goals
    go_ret
    refine ret_bool ?_
    first
      | rfl
      | (rw [Bool.eq_iff_iff]; simp [isLet]; try omega)
theorem isDigit_any (c : Int) (w : World) :
    Calls Tryz.prog 151 #[.int .u8 c] w fun e w' => e = .returned (.bool (isDig c)) ∧ w' = w := by
  go_enter Tryz.func151, Tryz.ntmps151
  go_wp2
  all_goals
    go_ret
    refine ret_bool ?_
    first
      | rfl
      | (rw [Bool.eq_iff_iff]; simp [isDig]; try omega)
theorem isQuotable_any (c : Int) (w : World) :
    Calls Tryz.prog 180 #[.int .u8 c] w fun e w' => e = .returned (.bool (isQuo c)) ∧ w' = w := by
  go_enter Tryz.func180, Tryz.ntmps180
  go_wp2
  all_goals
    go_ret
    refine ret_bool ?_
    first
      | rfl
      | (rw [Bool.eq_iff_iff]; simp [isQuo]; try omega)
theorem inWord_any (c : Int) (w : World) :
    Calls Tryz.prog 153 #[.int .u8 c] w fun e w' => e = .returned (.bool (inW c)) ∧ w' = w := by
  cases h : isLet c
  all_goals
    go_enter Tryz.func153, Tryz.ntmps153
    go_wp2_with (first
      | (go_at_call 150; refine (isLetter_any _ _).mono ?_; rintro e w' ⟨rfl, rfl⟩)
      | (go_at_call 151; refine (isDigit_any _ _).mono ?_; rintro e w' ⟨rfl, rfl⟩))
    go_ret
    refine ret_bool ?_
    simp [inW, h]
theorem isHexDigit_any (c : Int) (w : World) :
    Calls Tryz.prog 179 #[.int .u8 c] w fun e w' => e = .returned (.bool (isHex c)) ∧ w' = w := by
  cases h : isDig c
  all_goals
    go_enter Tryz.func179, Tryz.ntmps179
    go_wp2_with (go_at_call 151; refine (isDigit_any _ _).mono ?_; rintro e w' ⟨rfl, rfl⟩)
    all_goals
      go_ret
      refine ret_bool ?_
      first
        | rfl
        | (rw [Bool.eq_iff_iff]; simp [isHex, h]; try omega)
theorem digit_any (c : Int) (hc : isHex c = true) (w : World) :
    Calls Tryz.prog 156 #[.int .u8 c] w fun e w' => e = .returned (.int .u64 (digI c)) ∧ w' = w := by
  cases h : isDig c
  · have h1 : 97 ≤ c ∧ c ≤ 102 := by simp [isHex, h] at hc; exact hc
    have h2 : digI c = c - 97 + 10 := by unfold digI; rw [if_neg]; omega
    rw [h2]
    go_enter Tryz.func156, Tryz.ntmps156
    go_wp2_with (go_at_call 151; refine (isDigit_any _ _).mono ?_; rintro e w' ⟨rfl, rfl⟩)
    go_ret
    refine ⟨?_, rfl⟩
    try first | rfl | (congr 2; omega)
  · have h1 : 48 ≤ c ∧ c ≤ 57 := by simpa [isDig] using h
    have h2 : digI c = c - 48 := by unfold digI; rw [if_pos h1]
    rw [h2]
    go_enter Tryz.func156, Tryz.ntmps156
    go_wp2_with (go_at_call 151; refine (isDigit_any _ _).mono ?_; rintro e w' ⟨rfl, rfl⟩)
    go_ret
    refine ⟨?_, rfl⟩
    try first | rfl | (congr 2; omega)
theorem byteAt_any (s : ByteArray) (k : Nat) (hk : k ≤ 4611686018427387904) (hs : s.size ≤ 4611686018427387904) (w : World) :
    Calls Tryz.prog 148 #[.string s, .int .i64 k] w fun e w' => e = .returned (.int .u8 (atI (bs s) k)) ∧ w' = w := by
  by_cases h : s.size ≤ k
  · rw [atI_out _ _ (by rw [bs_length]; exact h)]
    go_enter Tryz.func148, Tryz.ntmps148
    go_wp2
    go_ret
    exact ⟨rfl, rfl⟩
  · have h' : k < s.size := by omega
    rw [← atI_get s k h']
    go_enter Tryz.func148, Tryz.ntmps148
    go_wp2
    go_ret
    exact ⟨rfl, rfl⟩
theorem liteIndexByte_any (s : ByteArray) (c : Int) (w : World) :
    Calls Tryz.prog 193 #[.string s, .int .u8 c] w fun e w' => e = .returned (.int .i64 (Lib.indexByte s.data.toList c.toNat.toUInt8)) ∧ w' = w := by
  go_enter Tryz.func193, Tryz.ntmps193
  go_wp2
  rw [run_callFunc_extern Tryz.func197 (by kernel_rfl) (by kernel_rfl) (by kernel_rfl) (e := Extern.BytealgIndexByte.indexByte) (by kernel_rfl), Lib.run_indexByteString]
  simp only [Result.andThen]
  rw [Oper.upon_value]
  go_wp2
  go_ret
  exact ⟨rfl, rfl⟩
theorem indexByte_any (s : ByteArray) (c : Int) (w : World) :
    Calls Tryz.prog 178 #[.string s, .int .u8 c] w fun e w' => e = .returned (.int .i64 (Lib.indexByte s.data.toList c.toNat.toUInt8)) ∧ w' = w := by
  go_enter Tryz.func178, Tryz.ntmps178
  go_wp2_with (go_at_call 193; refine (liteIndexByte_any _ _ _).mono ?_; rintro e w' ⟨rfl, rfl⟩)
  go_ret
  exact ⟨rfl, rfl⟩
set_option maxRecDepth 100000 in
theorem sign_eq (c : Int) (h0 : 0 ≤ c) (h1 : c ≤ 255) : decide (0 ≤ Lib.indexByte [58, 44, 40, 41, 43, 45, 42, 61] c.toNat.toUInt8) = isSg c := by
  rw [← Lib.contains_iff_indexByte]
  obtain ⟨n, rfl⟩ := Int.eq_ofNat_of_zero_le h0
  have hn : n < 256 := by omega
  clear h0 h1
  simp only [Int.toNat_natCast]
  revert n
  decide
theorem isSign_any (c : Int) (h0 : 0 ≤ c) (h1 : c ≤ 255) (w : World) :
    Calls Tryz.prog 152 #[.int .u8 c] w fun e w' => e = .returned (.bool (isSg c)) ∧ w' = w := by
  rw [← sign_eq c h0 h1]
  go_enter Tryz.func152, Tryz.ntmps152
  go_wp2_with (go_at_call 178; refine (indexByte_any _ _ _).mono ?_; rintro e w' ⟨rfl, rfl⟩)
  go_ret
  exact ⟨rfl, rfl⟩
end Go.Proofs.YtmndccbeddaphaaGreatDoor
/- What a number, a token and the tokens of a text are, as functions on its bytes. -/
namespace Go.Proofs.YtmndccbeddaphaaGreatDoor
set_option linter.unusedVariables false
set_option maxRecDepth 100000
def lenW (p : Int → Bool) (r : List UInt8) : Nat := (r.takeWhile fun b => p (b.toNat : Int)).length
theorem atI_zero_cons (b : UInt8) (r : List UInt8) : atI (b :: r) 0 = (b.toNat : Int) := rfl
theorem atI_nil (k : Nat) : atI [] k = 0 := by simp [atI]
theorem lenW_stop (p : Int → Bool) (r : List UInt8) (h : p (atI r 0) = false) : lenW p r = 0 := by
  cases r with
  | nil => rfl
  | cons b r => simp [lenW, List.takeWhile, atI_zero_cons] at h ⊢; simp [h]
theorem lenW_more (p : Int → Bool) (hp : p 0 = false) (r : List UInt8) (h : p (atI r 0) = true) : lenW p r = lenW p (r.drop 1) + 1 ∧ 0 < r.length := by
  cases r with
  | nil => rw [atI_nil, hp] at h; cases h
  | cons b r => simp [lenW, List.takeWhile, atI_zero_cons] at h ⊢; simp [h]
theorem lenW_le (p : Int → Bool) (r : List UInt8) : lenW p r ≤ r.length := by
  unfold lenW
  exact (List.takeWhile_sublist _).length_le
theorem lenW_take (p : Int → Bool) (r : List UInt8) : r.takeWhile (fun b => p (b.toNat : Int)) = r.take (lenW p r) := by
  unfold lenW
  induction r with
  | nil => rfl
  | cons b r ih =>
    simp only [List.takeWhile]
    split
    · simp; exact ih
    · simp
theorem take_all (p : Int → Bool) (r : List UInt8) : ∀ b ∈ r.take (lenW p r), p (b.toNat : Int) = true := by
  rw [← lenW_take]
  induction r with
  | nil => intro b hb; simp at hb
  | cons x r ih =>
    intro b hb
    cases hx : p (x.toNat : Int)
    · simp [List.takeWhile, hx] at hb
    · simp only [List.takeWhile, hx, List.mem_cons] at hb
      rcases hb with rfl | hb
      · exact hx
      · exact ih b hb
theorem inW_zero : inW 0 = false := rfl
theorem isDig_zero : isDig 0 = false := rfl
theorem isHex_zero : isHex 0 = false := rfl
def val (base : Int) (n : Int) (ds : List UInt8) : Int := ds.foldl (fun n b => base * n + digI (b.toNat : Int)) n
theorem digI_lo (c : Int) (h : isHex c = true) : 0 ≤ digI c ∧ digI c ≤ 15 := by
  simp [isHex, isDig] at h
  unfold digI
  split <;> omega
theorem digI_dig (c : Int) (h : isDig c = true) : 0 ≤ digI c ∧ digI c ≤ 9 := by
  simp [isDig] at h
  unfold digI
  rw [if_pos h]
  omega
theorem isHex_of_dig (c : Int) (h : isDig c = true) : isHex c = true := by simp [isHex, h]
theorem val_cons (base n : Int) (b : UInt8) (ds : List UInt8) : val base n (b :: ds) = val base (base * n + digI (b.toNat : Int)) ds := rfl
theorem val_nil (base n : Int) : val base n [] = n := rfl
theorem val_ge (n : Int) (ds : List UInt8) (hn : 0 ≤ n) (h : ∀ b ∈ ds, isDig (b.toNat : Int) = true) : n ≤ val 10 n ds := by
  induction ds generalizing n with
  | nil => exact Int.le_refl _
  | cons b ds ih =>
    have hb := digI_dig _ (h b (by simp))
    rw [val_cons]
    have := ih (10 * n + digI (b.toNat : Int)) (by omega) (fun x hx => h x (by simp [hx]))
    omega
theorem take_more (p : Int → Bool) (hp : p 0 = false) (r : List UInt8) (h : p (atI r 0) = true) (base n : Int) :
    val base n (r.take (lenW p r)) = val base (base * n + digI (atI r 0)) ((r.drop 1).take (lenW p (r.drop 1))) := by
  cases r with
  | nil => rw [atI_nil, hp] at h; cases h
  | cons b r =>
    rw [(lenW_more p hp _ h).1]
    simp only [List.drop_one, List.tail_cons, List.take_succ_cons]
    rw [val_cons, atI_zero_cons]
def hexLen (k : Nat) (r : List UInt8) : Nat := min k (lenW isHex r)
theorem hexLen_stop (k : Nat) (r : List UInt8) (h : isHex (atI r 0) = false ∨ k = 0) : hexLen k r = 0 := by
  unfold hexLen
  rcases h with h | h
  · rw [lenW_stop _ _ h]; simp
  · simp [h]
theorem hexLen_more (k : Nat) (r : List UInt8) (h : isHex (atI r 0) = true) : hexLen (k + 1) r = hexLen k (r.drop 1) + 1 := by
  unfold hexLen
  rw [(lenW_more _ isHex_zero _ h).1]
  omega
theorem hexTake_more (k : Nat) (r : List UInt8) (h : isHex (atI r 0) = true) (n : Int) :
    val 16 n (r.take (hexLen (k + 1) r)) = val 16 (16 * n + digI (atI r 0)) ((r.drop 1).take (hexLen k (r.drop 1))) := by
  rw [hexLen_more k r h]
  cases r with
  | nil => rw [atI_nil, isHex_zero] at h; cases h
  | cons b r => simp only [List.drop_one, List.tail_cons, List.take_succ_cons, val_cons, atI_zero_cons]
def numAt (r : List UInt8) : Option (Int × Nat) :=
  if atI r 0 = 39 then (if isQuo (atI r 1) = true ∧ atI r 2 = 39 then some (atI r 1, 3) else none)
  else if atI r 0 = 48 ∧ atI r 1 = 120 then
    (if hexLen 8 (r.drop 2) = 0 ∨ inW (atI r (2 + hexLen 8 (r.drop 2))) = true then none else some (val 16 0 ((r.drop 2).take (hexLen 8 (r.drop 2))), 2 + hexLen 8 (r.drop 2)))
  else if atI r 0 = 48 then (if inW (atI r 1) = true then none else some (0, 1))
  else (if 4294967295 < val 10 0 (r.take (lenW isDig r)) ∨ inW (atI r (lenW isDig r)) = true then none else some (val 10 0 (r.take (lenW isDig r)), lenW isDig r))
def numN (r : List UInt8) : Int := match numAt r with | some (n, _) => n | none => 0
def numL (r : List UInt8) : Nat := match numAt r with | some (_, k) => k | none => 0
theorem hex_step (i : Nat) (n d : Int) (hi : i < 8) (n0 : 0 ≤ n) (n1 : n < 16 ^ i) (d0 : 0 ≤ d) (d1 : d ≤ 15) : 0 ≤ 16 * n + d ∧ 16 * n + d < 16 ^ (i + 1) ∧ 16 * n + d ≤ 4294967295 := by
  have : i = 0 ∨ i = 1 ∨ i = 2 ∨ i = 3 ∨ i = 4 ∨ i = 5 ∨ i = 6 ∨ i = 7 := by omega
  rcases this with rfl | rfl | rfl | rfl | rfl | rfl | rfl | rfl <;> simp at n1 ⊢ <;> omega
theorem hex_small (i : Nat) (n : Int) (hi : i ≤ 8) (n1 : n < 16 ^ i) : n ≤ 4294967295 := by
  have : i = 0 ∨ i = 1 ∨ i = 2 ∨ i = 3 ∨ i = 4 ∨ i = 5 ∨ i = 6 ∨ i = 7 ∨ i = 8 := by omega
  rcases this with rfl | rfl | rfl | rfl | rfl | rfl | rfl | rfl | rfl <;> simp at n1 ⊢ <;> omega
def Res (N T : Int) (at_ : Nat) (bad : Prop) (v : Int) (k : Nat) : Prop := (bad → N = 0 ∧ T = (at_ : Int)) ∧ (¬ bad → N = v ∧ T = (k : Int))
theorem Res.bad {N T : Int} {at_ : Nat} {bad : Prop} {v : Int} {k : Nat} (h : Res N T at_ bad v k) (hb : bad) : N = 0 ∧ T = (at_ : Int) := h.1 hb
theorem Res.good {N T : Int} {at_ : Nat} {bad : Prop} {v : Int} {k : Nat} (h : Res N T at_ bad v k) (hb : ¬ bad) : N = v ∧ T = (k : Int) := h.2 hb
theorem Res.turn {N T : Int} {at_ : Nat} {bad bad' : Prop} {v v' : Int} {k k' : Nat} (h : Res N T at_ bad v k) (hb : bad' ↔ bad) (hv : v' = v) (hk : k' = k) : Res N T at_ bad' v' k' := by
  subst hv hk
  exact ⟨fun x => h.1 (hb.1 x), fun x => h.2 fun y => x (hb.2 y)⟩
structure Tok where
  kind : Int
  text : List UInt8
  num : Int
  place : Nat
def tokAt (r : List UInt8) : Option (Int × Int × Nat) :=
  if isLet (atI r 0) = true then (if lenW inW r ≤ 32 then some (1, 0, lenW inW r) else none)
  else if isDig (atI r 0) = true ∨ atI r 0 = 39 then
    (if numL r = 0 then none else some (2, numN r, numL r))
  else if isSg (atI r 0) = true then some (3, 0, 1)
  else none
def scan (r : List UInt8) (at_ : Nat) : Except Nat (List Tok) :=
  match r with
  | [] => .ok []
  | b :: r' =>
    if (b.toNat : Int) = 59 then .ok []
    else if isBl (b.toNat : Int) = true then scan r' (at_ + 1)
    else match tokAt (b :: r') with
      | none => .error at_
      | some (kind, n, k) =>
        match scan (r'.drop (k - 1)) (at_ + k) with
        | .ok ts => .ok ({ kind := kind, text := (b :: r').take k, num := n, place := at_ } :: ts)
        | .error p => .error p
  termination_by r.length
  decreasing_by all_goals simp; try omega
end Go.Proofs.YtmndccbeddaphaaGreatDoor
/- The scan of a text, place by place. -/
namespace Go.Proofs.YtmndccbeddaphaaGreatDoor
set_option linter.unusedVariables false
set_option maxRecDepth 100000
theorem inW_of_let (c : Int) (h : isLet c = true) : inW c = true := by simp [inW, h]
theorem atI_pos (r : List UInt8) (k : Nat) (h : atI r k ≠ 0) : k < r.length := by
  apply Decidable.byContradiction
  intro hn
  exact h (atI_out r k (by omega))
theorem numL_le (r : List UInt8) : numL r ≤ r.length := by
  unfold numL
  split
  · rename_i n k h
    unfold numAt at h
    by_cases h1 : atI r 0 = 39
    · rw [if_pos h1] at h
      by_cases h2 : isQuo (atI r 1) = true ∧ atI r 2 = 39
      · rw [if_pos h2] at h
        have := atI_pos r 2 (by omega)
        simp at h
        omega
      · rw [if_neg h2] at h; cases h
    · rw [if_neg h1] at h
      by_cases h2 : atI r 0 = 48 ∧ atI r 1 = 120
      · rw [if_pos h2] at h
        have hl := atI_pos r 1 (by omega)
        have hx : hexLen 8 (r.drop 2) ≤ (r.drop 2).length := Nat.le_trans (Nat.min_le_right _ _) (lenW_le _ _)
        rw [List.length_drop] at hx
        split at h
        · cases h
        · simp at h; omega
      · rw [if_neg h2] at h
        by_cases h3 : atI r 0 = 48
        · rw [if_pos h3] at h
          have := atI_pos r 0 (by omega)
          split at h
          · cases h
          · simp at h; omega
        · rw [if_neg h3] at h
          have := lenW_le isDig r
          split at h
          · cases h
          · simp at h; omega
  · exact Nat.zero_le _
theorem tokAt_some (r : List UInt8) (kind n : Int) (k : Nat) (h : tokAt r = some (kind, n, k)) : 1 ≤ k ∧ k ≤ r.length := by
  unfold tokAt at h
  by_cases h1 : isLet (atI r 0) = true
  · rw [if_pos h1] at h
    have hm := lenW_more inW inW_zero r (inW_of_let _ h1)
    have hle := lenW_le inW r
    split at h
    · simp at h; omega
    · cases h
  · rw [if_neg h1] at h
    by_cases h2 : isDig (atI r 0) = true ∨ atI r 0 = 39
    · rw [if_pos h2] at h
      have := numL_le r
      split at h
      · cases h
      · simp at h; omega
    · rw [if_neg h2] at h
      split at h
      · rename_i h3
        have := atI_pos r 0 (by intro h0; rw [h0] at h3; revert h3; decide)
        simp at h; omega
      · cases h
def ext (acc : List Tok) : Except Nat (List Tok) → Except Nat (List Tok)
  | .ok ts => .ok (acc ++ ts)
  | .error p => .error p
theorem ext_nil (x : Except Nat (List Tok)) : ext [] x = x := by cases x <;> rfl
theorem drop_head (l : List UInt8) (a : Nat) (h : a < l.length) : ∃ b, l.drop a = b :: l.drop (a + 1) ∧ (b.toNat : Int) = atI l a := by
  refine ⟨l[a], List.drop_eq_getElem_cons h, ?_⟩
  unfold atI
  rw [List.getD_eq_getElem?_getD, List.getElem?_eq_getElem h]
  rfl
theorem scan_end (l : List UInt8) (a : Nat) (h : l.length ≤ a) : scan (l.drop a) a = .ok [] := by
  rw [List.drop_of_length_le h]
  unfold scan
  rfl
theorem scan_remark (l : List UInt8) (a : Nat) (h : a < l.length) (hc : atI l a = 59) : scan (l.drop a) a = .ok [] := by
  obtain ⟨b, hb, hv⟩ := drop_head l a h
  rw [hb, scan, if_pos (by rw [hv]; exact hc)]
theorem scan_blank (l : List UInt8) (a : Nat) (h : a < l.length) (hc : isBl (atI l a) = true) : scan (l.drop a) a = scan (l.drop (a + 1)) (a + 1) := by
  obtain ⟨b, hb, hv⟩ := drop_head l a h
  rw [hb, scan, if_neg (by rw [hv]; intro h'; rw [h'] at hc; revert hc; decide), if_pos (by rw [hv]; exact hc)]
theorem scan_wrong (l : List UInt8) (a : Nat) (h : a < l.length) (h59 : atI l a ≠ 59) (hc : isBl (atI l a) = false) (ht : tokAt (l.drop a) = none) : scan (l.drop a) a = .error a := by
  obtain ⟨b, hb, hv⟩ := drop_head l a h
  rw [hb] at ht
  rw [hb, scan, if_neg (by rw [hv]; exact h59), if_neg (by rw [hv, hc]; simp), ht]
theorem scan_tok (l : List UInt8) (a : Nat) (h : a < l.length) (h59 : atI l a ≠ 59) (hc : isBl (atI l a) = false) (kind n : Int) (k : Nat) (ht : tokAt (l.drop a) = some (kind, n, k)) :
    scan (l.drop a) a = ext [{ kind := kind, text := (l.drop a).take k, num := n, place := a }] (scan (l.drop (a + k)) (a + k)) := by
  have hk := (tokAt_some _ _ _ _ ht).1
  obtain ⟨b, hb, hv⟩ := drop_head l a h
  rw [hb] at ht
  rw [hb, scan, if_neg (by rw [hv]; exact h59), if_neg (by rw [hv, hc]; simp), ht]
  simp only
  rw [List.drop_drop, show a + 1 + (k - 1) = a + k by omega]
  cases scan (l.drop (a + k)) (a + k) <;> rfl
theorem ext_ext (acc : List Tok) (t : Tok) (x : Except Nat (List Tok)) : ext acc (ext [t] x) = ext (acc ++ [t]) x := by cases x <;> simp [ext]
theorem scan_len (r : List UInt8) (a : Nat) (ts : List Tok) (h : scan r a = .ok ts) : ts.length ≤ r.length := by
  induction hn : r.length using Nat.strongRecOn generalizing r a ts with
  | _ n ih =>
    subst hn
    cases r with
    | nil => unfold scan at h; cases h; simp
    | cons b r =>
      unfold scan at h
      split at h
      · cases h; simp
      · split at h
        · have := ih r.length (by simp) r _ ts h rfl
          simp; omega
        · split at h
          · cases h
          · split at h
            · rename_i kind n k heq1 _ us heq2
              have hk := tokAt_some _ _ _ _ heq1
              have := ih (r.drop (k - 1)).length (by simp; omega) _ _ us heq2 rfl
              simp only [List.length_drop] at this
              cases h
              simp
              omega
            · cases h
end Go.Proofs.YtmndccbeddaphaaGreatDoor
/- Lins as lists of terms: their coefficients, the one list that has given coefficients, sums and products. -/
namespace Go.Proofs.YtmndccbeddaphaaGreatDoor
set_option linter.unusedVariables false
structure Tm where
  name : List UInt8
  coef : Int
deriving DecidableEq
def nlt (a b : List UInt8) : Bool := Op.bytesLess a b
theorem nlt_nil (a : List UInt8) : nlt a [] = false := by cases a <;> rfl
theorem nlt_cons (a b : UInt8) (x y : List UInt8) : nlt (a :: x) (b :: y) = (decide (a < b) || (a == b && nlt x y)) := rfl
theorem u8_trans {a b c : UInt8} (h : a < b) (h2 : b < c) : a < c := by rw [UInt8.lt_iff_toNat_lt] at *; omega
theorem u8_tri (a b : UInt8) : a < b ∨ a = b ∨ b < a := by
  rw [UInt8.lt_iff_toNat_lt, UInt8.lt_iff_toNat_lt, ← UInt8.toNat_inj]
  omega
theorem nlt_irrefl (a : List UInt8) : nlt a a = false := by
  induction a with
  | nil => rfl
  | cons a x ih => rw [nlt_cons, ih]; simp
theorem nlt_trans {a b c : List UInt8} (h : nlt a b = true) (h2 : nlt b c = true) : nlt a c = true := by
  induction a generalizing b c with
  | nil =>
    cases c with
    | nil => rw [nlt_nil] at h2; cases h2
    | cons c z => rfl
  | cons a x ih =>
    cases b with
    | nil => rw [nlt_nil] at h; cases h
    | cons b y =>
      cases c with
      | nil => rw [nlt_nil] at h2; cases h2
      | cons c z =>
        rw [nlt_cons] at *
        simp only [Bool.or_eq_true, decide_eq_true_eq, Bool.and_eq_true, beq_iff_eq] at *
        rcases h with h | ⟨h, h'⟩
        · rcases h2 with h2 | ⟨h2, h2'⟩
          · exact .inl (u8_trans h h2)
          · subst h2; exact .inl h
        · subst h
          rcases h2 with h2 | ⟨h2, h2'⟩
          · exact .inl h2
          · exact .inr ⟨h2, ih h' h2'⟩
theorem nlt_tri (a b : List UInt8) : nlt a b = true ∨ a = b ∨ nlt b a = true := by
  induction a generalizing b with
  | nil => cases b with
    | nil => exact .inr (.inl rfl)
    | cons => exact .inl rfl
  | cons a x ih => cases b with
    | nil => exact .inr (.inr rfl)
    | cons b y =>
      rw [nlt_cons, nlt_cons]
      rcases u8_tri a b with h | h | h
      · exact .inl (by simp [h])
      · subst h
        rcases ih y with h | h | h
        · exact .inl (by simp [h])
        · exact .inr (.inl (by rw [h]))
        · exact .inr (.inr (by simp [h]))
      · exact .inr (.inr (by simp [h]))
theorem nlt_asymm {a b : List UInt8} (h : nlt a b = true) : nlt b a = false := by
  cases h2 : nlt b a
  · rfl
  · have := nlt_trans h h2; rw [nlt_irrefl] at this; cases this
theorem nlt_ne {a b : List UInt8} (h : nlt a b = true) : a ≠ b := by
  intro e; subst e; rw [nlt_irrefl] at h; cases h
def Sorted (l : List Tm) : Prop := l.Pairwise (fun a b => nlt b.name a.name = false)
end Go.Proofs.YtmndccbeddaphaaGreatDoor
/- lex.numberAt: the number at a place, and the place behind it. -/
namespace Go.Proofs.YtmndccbeddaphaaGreatDoor
open Go.ChangeShapes Go.WideShapes Go.ChangeAt Go.RowKit
set_option linter.unusedVariables false
set_option maxRecDepth 100000
theorem Hid.intro {p : Prop} (h : p) : Hid p := h
def Q28 (N T : Int) (w : World) : Exit → Act → World → Prop := bodyPost Tryz.prog Tryz.f154 fun e w' => e = .returned (.tuple #[.int .u32 N, .int .i64 T]) ∧ w' = w
theorem byteAt_int (s : ByteArray) (z : Int) (h0 : 0 ≤ z) (hk : z ≤ 4611686018427387904) (hs : s.size ≤ 4611686018427387904) (w : World) :
    Calls Tryz.prog 148 #[.string s, .int .i64 z] w fun e w' => e = .returned (.int .u8 (atI (bs s) z.toNat)) ∧ w' = w := by
  obtain ⟨k, rfl⟩ := Int.eq_ofNat_of_zero_le h0
  exact byteAt_any s k (by omega) hs w
theorem none_lands (s : ByteArray) (at_ : Nat) (N T : Int) (w : World) (hN : N = 0) (hT : T = at_) {u2 u3 u4 u5 u6 u7 u8 u9 u10 u11 u12 u13 u14 u15 u16 u17 u18 u19 u20 u21 u22 u23 u24 u25 u26 u27 u28 u29 u30 u31 u32 u33 u34 u35 u36 u37 u38 u39 u40 u41 u42 u43 u44 u45 u46 u47 u48 u49 u50 u51 u52 u53 u54 u55 u56 u57 u58 u59 u60 u61 u62 u63 u64 u65 u66 u67 u68 u69 u70 u71 u72 u73 u74 u75 u76 u77 u78 u79 u80 u81 u82 u83 u84 u85 u86 u87 u88 u89 u90 u91 u92 u93 u94 u95 u96 u97 u98 u99 : Value} :
    Lands Tryz.prog (scopeOf Tryz.f154) (Q28 N T w) 3 { tmps := List.toArray (.string s :: .int .i64 (at_ : Int) :: u2 :: u3 :: u4 :: u5 :: u6 :: u7 :: u8 :: u9 :: u10 :: u11 :: u12 :: u13 :: u14 :: u15 :: u16 :: u17 :: u18 :: u19 :: u20 :: u21 :: u22 :: u23 :: u24 :: u25 :: u26 :: u27 :: u28 :: u29 :: u30 :: u31 :: u32 :: u33 :: u34 :: u35 :: u36 :: u37 :: u38 :: u39 :: u40 :: u41 :: u42 :: u43 :: u44 :: u45 :: u46 :: u47 :: u48 :: u49 :: u50 :: u51 :: u52 :: u53 :: u54 :: u55 :: u56 :: u57 :: u58 :: u59 :: u60 :: u61 :: u62 :: u63 :: u64 :: u65 :: u66 :: u67 :: u68 :: u69 :: u70 :: u71 :: u72 :: u73 :: u74 :: u75 :: u76 :: u77 :: u78 :: u79 :: u80 :: u81 :: u82 :: u83 :: u84 :: u85 :: u86 :: u87 :: u88 :: u89 :: u90 :: u91 :: u92 :: u93 :: u94 :: u95 :: u96 :: u97 :: u98 :: u99 :: []), defers := [] } w := by
  subst hN hT
  refine Lands.of rfl ?_
  go_wp2
  rw [jumps_ret]
  unfold Q28
  go_ret2
  exact ⟨rfl, rfl⟩
theorem behind_lands (s : ByteArray) (at_ k : Nat) (n to_ N T : Int) (w : World) (hk : to_ = k) (ht : to_ ≤ 4611686018427387904) (hs : s.size ≤ 4611686018427387904) (n0 : 0 ≤ n) (n1 : n ≤ 4294967295)
    (hR : Res N T at_ (inW (atI (bs s) k) = true) n k) {u2 u3 u4 u5 u8 u9 u10 u11 u12 u13 u14 u15 u16 u17 u18 u19 u20 u21 u22 u23 u24 u25 u26 u27 u28 u29 u30 u31 u32 u33 u34 u35 u36 u37 u38 u39 u40 u41 u42 u43 u44 u45 u46 u47 u48 u49 u50 u51 u52 u53 u54 u55 u56 u57 u58 u59 u60 u61 u62 u63 u64 u65 u66 u67 u68 u69 u70 u71 u72 u73 u74 u75 u76 u77 u78 u79 u80 u81 u82 u83 u84 u85 u86 u87 u88 u89 u90 u91 u92 u93 u94 u95 u96 u97 u98 u99 : Value} :
    Lands Tryz.prog (scopeOf Tryz.f154) (Q28 N T w) 2 { tmps := List.toArray (.string s :: .int .i64 (at_ : Int) :: u2 :: u3 :: u4 :: u5 :: .int .u64 n :: .int .i64 to_ :: u8 :: u9 :: u10 :: u11 :: u12 :: u13 :: u14 :: u15 :: u16 :: u17 :: u18 :: u19 :: u20 :: u21 :: u22 :: u23 :: u24 :: u25 :: u26 :: u27 :: u28 :: u29 :: u30 :: u31 :: u32 :: u33 :: u34 :: u35 :: u36 :: u37 :: u38 :: u39 :: u40 :: u41 :: u42 :: u43 :: u44 :: u45 :: u46 :: u47 :: u48 :: u49 :: u50 :: u51 :: u52 :: u53 :: u54 :: u55 :: u56 :: u57 :: u58 :: u59 :: u60 :: u61 :: u62 :: u63 :: u64 :: u65 :: u66 :: u67 :: u68 :: u69 :: u70 :: u71 :: u72 :: u73 :: u74 :: u75 :: u76 :: u77 :: u78 :: u79 :: u80 :: u81 :: u82 :: u83 :: u84 :: u85 :: u86 :: u87 :: u88 :: u89 :: u90 :: u91 :: u92 :: u93 :: u94 :: u95 :: u96 :: u97 :: u98 :: u99 :: []), defers := [] } w := by
  have htn : to_.toNat = k := by omega
  have ht0 : 0 ≤ to_ := by omega
  rw [← htn] at hR
  cases hin : inW (atI (bs s) to_.toNat)
  · obtain ⟨hN, hT0⟩ := hR.good (by rw [hin]; simp)
    have hT : T = to_ := by omega
    clear hR htn hk hT0
    subst hN hT
    refine Lands.of rfl ?_
    go_wp2_with (first
      | (go_at_call 148; refine (byteAt_int _ _ (by omega) (by omega) (by assumption) _).mono ?_; rintro e w' ⟨rfl, rfl⟩)
      | (go_at_call 153; refine (inWord_any _ _).mono ?_; rintro e w' ⟨rfl, rfl⟩)
      | (go_at_call 151; refine (isDigit_any _ _).mono ?_; rintro e w' ⟨rfl, rfl⟩)
      | (go_at_call 179; refine (isHexDigit_any _ _).mono ?_; rintro e w' ⟨rfl, rfl⟩)
      | (go_at_call 180; refine (isQuotable_any _ _).mono ?_; rintro e w' ⟨rfl, rfl⟩)
      | (go_at_call 156; refine (digit_any _ (by assumption) _).mono ?_; rintro e w' ⟨rfl, rfl⟩))
    rw [jumps_ret]
    unfold Q28
    go_ret2
    exact ⟨rfl, rfl⟩
  · obtain ⟨hN, hT⟩ := hR.bad hin
    clear hR htn hk
    refine Lands.of rfl ?_
    go_wp2_with (first
      | (go_at_call 148; refine (byteAt_int _ _ (by omega) (by omega) (by assumption) _).mono ?_; rintro e w' ⟨rfl, rfl⟩)
      | (go_at_call 153; refine (inWord_any _ _).mono ?_; rintro e w' ⟨rfl, rfl⟩)
      | (go_at_call 151; refine (isDigit_any _ _).mono ?_; rintro e w' ⟨rfl, rfl⟩)
      | (go_at_call 179; refine (isHexDigit_any _ _).mono ?_; rintro e w' ⟨rfl, rfl⟩)
      | (go_at_call 180; refine (isQuotable_any _ _).mono ?_; rintro e w' ⟨rfl, rfl⟩)
      | (go_at_call 156; refine (digit_any _ (by assumption) _).mono ?_; rintro e w' ⟨rfl, rfl⟩))
    go_step3
    exact none_lands s at_ _ _ _ hN hT
theorem dec_lands (s : ByteArray) (at_ : Nat) (N T : Int) (w : World) (hs : s.size ≤ 4611686018427387800) :
    ∀ (m k : Nat) (to_ n : Int), to_ = k → k ≤ s.size → lenW isDig ((bs s).drop k) = m → 0 ≤ n → n ≤ 4294967295 →
    Res N T at_ (4294967295 < val 10 n (((bs s).drop k).take m) ∨ inW (atI (bs s) (k + m)) = true) (val 10 n (((bs s).drop k).take m)) (k + m) →
    ∀ {u2 u3 u4 u5 u8 u9 u10 u11 u12 u13 u14 u15 u16 u17 u18 u19 u20 u21 u22 u23 u24 u25 u26 u27 u28 u29 u30 u31 u32 u33 u34 u35 u36 u37 u38 u39 u40 u41 u42 u43 u44 u45 u46 u47 u48 u49 u50 u51 u52 u53 u54 u55 u56 u57 u58 u59 u60 u61 u62 u63 u64 u65 u66 u67 u68 u69 u70 u71 u72 u73 u74 u75 u76 u77 u78 u79 u80 u81 u82 u83 u84 u85 u86 u87 u88 u89 u90 u91 u92 u93 u94 u95 u96 u97 u98 u99 : Value}, Lands Tryz.prog (scopeOf Tryz.f154) (Q28 N T w) 4 { tmps := List.toArray (.string s :: .int .i64 (at_ : Int) :: u2 :: u3 :: u4 :: u5 :: .int .u64 n :: .int .i64 to_ :: u8 :: u9 :: u10 :: u11 :: u12 :: u13 :: u14 :: u15 :: u16 :: u17 :: u18 :: u19 :: u20 :: u21 :: u22 :: u23 :: u24 :: u25 :: u26 :: u27 :: u28 :: u29 :: u30 :: u31 :: u32 :: u33 :: u34 :: u35 :: u36 :: u37 :: u38 :: u39 :: u40 :: u41 :: u42 :: u43 :: u44 :: u45 :: u46 :: u47 :: u48 :: u49 :: u50 :: u51 :: u52 :: u53 :: u54 :: u55 :: u56 :: u57 :: u58 :: u59 :: u60 :: u61 :: u62 :: u63 :: u64 :: u65 :: u66 :: u67 :: u68 :: u69 :: u70 :: u71 :: u72 :: u73 :: u74 :: u75 :: u76 :: u77 :: u78 :: u79 :: u80 :: u81 :: u82 :: u83 :: u84 :: u85 :: u86 :: u87 :: u88 :: u89 :: u90 :: u91 :: u92 :: u93 :: u94 :: u95 :: u96 :: u97 :: u98 :: u99 :: []), defers := [] } w := by
  intro m
  induction m with
  | zero =>
    intro k to_ n hk hks hm n0 n1 hR
    intros
    have ht : to_.toNat = k := by omega
    have hd : isDig (atI (bs s) to_.toNat) = false := by
      cases h : isDig (atI (bs s) to_.toNat)
      · rfl
      · rw [ht] at h
        have := (lenW_more isDig isDig_zero ((bs s).drop k) (by rw [atI_drop]; exact h)).1
        omega
    have hs2 : s.size ≤ 4611686018427387904 := by omega
    rw [List.take_zero, val_nil, Nat.add_zero] at hR
    have hR2 := Hid.intro (hR.turn (bad' := inW (atI (bs s) k) = true) ⟨fun h => Or.inr h, fun h => h.resolve_left (by omega)⟩ rfl rfl)
    have h0 : 0 ≤ to_ := by omega
    have h1 : to_ ≤ 4611686018427387850 := by omega
    have hH := Hid.intro hk
    clear hR hm ht hk
    refine Lands.of rfl ?_
    go_wp2_with (first
      | (go_at_call 148; refine (byteAt_int _ _ (by omega) (by omega) (by assumption) _).mono ?_; rintro e w' ⟨rfl, rfl⟩)
      | (go_at_call 153; refine (inWord_any _ _).mono ?_; rintro e w' ⟨rfl, rfl⟩)
      | (go_at_call 151; refine (isDigit_any _ _).mono ?_; rintro e w' ⟨rfl, rfl⟩)
      | (go_at_call 179; refine (isHexDigit_any _ _).mono ?_; rintro e w' ⟨rfl, rfl⟩)
      | (go_at_call 180; refine (isQuotable_any _ _).mono ?_; rintro e w' ⟨rfl, rfl⟩)
      | (go_at_call 156; refine (digit_any _ (by assumption) _).mono ?_; rintro e w' ⟨rfl, rfl⟩))
    go_step3
    exact behind_lands s at_ k n to_ N T _ hH.out (by omega) hs2 n0 n1 hR2.out
  | succ m ih =>
    intro k to_ n hk hks hm n0 n1 hR
    intros
    have ht : to_.toNat = k := by omega
    have hd : isDig (atI (bs s) to_.toNat) = true := by
      cases h : isDig (atI (bs s) to_.toNat)
      · rw [ht] at h
        have := lenW_stop isDig ((bs s).drop k) (by rw [atI_drop]; exact h)
        omega
      · rfl
    have hx := isHex_of_dig _ hd
    obtain ⟨d0, d1⟩ := digI_dig _ hd
    have hhead : isDig (atI ((bs s).drop k) 0) = true := by rw [atI_drop]; rw [ht] at hd; exact hd
    obtain ⟨hl1, hl2⟩ := lenW_more isDig isDig_zero ((bs s).drop k) hhead
    rw [List.drop_drop] at hl1
    rw [List.length_drop, bs_length] at hl2
    have hm' : lenW isDig ((bs s).drop (k + 1)) = m := by omega
    have hv := take_more isDig isDig_zero ((bs s).drop k) hhead 10 n
    rw [hm, List.drop_drop, hm', atI_drop] at hv
    simp only [Nat.add_zero] at hv
    rw [hv, show k + (m + 1) = k + 1 + m by omega] at hR
    have hs2 : s.size ≤ 4611686018427387904 := by omega
    have h0 : 0 ≤ to_ := by omega
    have h1 : to_ ≤ 4611686018427387850 := by omega
    have hge := val_ge (10 * n + digI (atI (bs s) k)) (((bs s).drop (k + 1)).take m) (by rw [ht] at d0; omega) (by rw [← hm']; exact take_all _ _)
    obtain ⟨c, hc⟩ : ∃ c, c = atI (bs s) k := ⟨_, rfl⟩
    rw [ht, ← hc] at hd hx d0 d1
    rw [← hc] at hR hge
    have hH := Hid.intro hk
    have hH2 := Hid.intro hR
    have hH3 := Hid.intro hge
    have hc' : atI (bs s) to_.toNat = c := by rw [ht, hc]
    clear hR hm ht hk hge hl1 hhead hv hc
    refine Lands.of rfl ?_
    go_wp2_with (first
      | (go_at_call 148; refine (byteAt_int _ _ (by omega) (by omega) (by assumption) _).mono ?_; rintro e w' ⟨rfl, rfl⟩)
      | (go_at_call 153; refine (inWord_any _ _).mono ?_; rintro e w' ⟨rfl, rfl⟩)
      | (go_at_call 151; refine (isDigit_any _ _).mono ?_; rintro e w' ⟨rfl, rfl⟩)
      | (go_at_call 179; refine (isHexDigit_any _ _).mono ?_; rintro e w' ⟨rfl, rfl⟩)
      | (go_at_call 180; refine (isQuotable_any _ _).mono ?_; rintro e w' ⟨rfl, rfl⟩)
      | (go_at_call 156; refine (digit_any _ (by assumption) _).mono ?_; rintro e w' ⟨rfl, rfl⟩))
    · go_step3
      have hge := hH3.out
      obtain ⟨hN, hT⟩ := hH2.out.bad (Or.inl (by omega))
      exact none_lands s at_ _ _ _ hN hT
    · go_step3
      have hk := hH.out
      exact ih (k + 1) _ _ (by omega) (by omega) hm' (by omega) (by omega) hH2.out
end Go.Proofs.YtmndccbeddaphaaGreatDoor
namespace Go.Proofs.YtmndccbeddaphaaGreatDoor
open Go.ChangeShapes Go.WideShapes Go.ChangeAt Go.RowKit
set_option linter.unusedVariables false
set_option maxRecDepth 100000
theorem hex_lands (s : ByteArray) (at_ : Nat) (N T : Int) (w : World) (hs : s.size ≤ 4611686018427387800) (ha : at_ ≤ s.size) :
    ∀ (j i : Nat) (to_ n : Int), i + j = 8 → to_ = ((at_ + 2 + i : Nat) : Int) → 0 ≤ n → n < 16 ^ i →
    Res N T at_ (i + hexLen j ((bs s).drop (at_ + 2 + i)) = 0 ∨ inW (atI (bs s) (at_ + 2 + i + hexLen j ((bs s).drop (at_ + 2 + i)))) = true)
      (val 16 n (((bs s).drop (at_ + 2 + i)).take (hexLen j ((bs s).drop (at_ + 2 + i))))) (at_ + 2 + i + hexLen j ((bs s).drop (at_ + 2 + i))) →
    ∀ {u2 u3 u4 u5 u8 u9 u10 u11 u12 u13 u14 u15 u16 u17 u18 u19 u20 u21 u22 u23 u24 u25 u26 u27 u28 u29 u30 u31 u32 u33 u34 u35 u36 u37 u38 u39 u40 u41 u42 u43 u44 u45 u46 u47 u48 u49 u50 u51 u52 u53 u54 u55 u56 u57 u58 u59 u60 u61 u62 u63 u64 u65 u66 u67 u68 u69 u70 u71 u72 u73 u74 u75 u76 u77 u78 u79 u80 u81 u82 u83 u84 u85 u86 u87 u88 u89 u90 u91 u92 u93 u94 u95 u96 u97 u98 u99 : Value}, Lands Tryz.prog (scopeOf Tryz.f154) (Q28 N T w) 1 { tmps := List.toArray (.string s :: .int .i64 (at_ : Int) :: u2 :: u3 :: u4 :: u5 :: .int .u64 n :: .int .i64 to_ :: u8 :: u9 :: u10 :: u11 :: u12 :: u13 :: u14 :: u15 :: u16 :: u17 :: u18 :: u19 :: u20 :: u21 :: u22 :: u23 :: u24 :: u25 :: u26 :: u27 :: u28 :: u29 :: u30 :: u31 :: u32 :: u33 :: u34 :: u35 :: u36 :: u37 :: u38 :: u39 :: u40 :: u41 :: u42 :: u43 :: u44 :: u45 :: u46 :: u47 :: u48 :: u49 :: u50 :: u51 :: u52 :: u53 :: u54 :: u55 :: u56 :: u57 :: u58 :: u59 :: u60 :: u61 :: u62 :: u63 :: u64 :: u65 :: u66 :: u67 :: u68 :: u69 :: u70 :: u71 :: u72 :: u73 :: u74 :: u75 :: u76 :: u77 :: u78 :: u79 :: u80 :: u81 :: u82 :: u83 :: u84 :: u85 :: u86 :: u87 :: u88 :: u89 :: u90 :: u91 :: u92 :: u93 :: u94 :: u95 :: u96 :: u97 :: u98 :: u99 :: []), defers := [] } w := by
  intro j
  induction j with
  | zero =>
    intro i to_ n hi hk n0 n1 hR
    intros
    have htn : to_.toNat = at_ + 2 + i := by omega
    have hs2 : s.size ≤ 4611686018427387904 := by omega
    have h0 : 0 ≤ to_ := by omega
    have h1 : to_ ≤ 4611686018427387850 := by omega
    have hn2 := hex_small i n (by omega) n1
    have e0 : hexLen 0 ((bs s).drop (at_ + 2 + i)) = 0 := hexLen_stop _ _ (Or.inr rfl)
    rw [e0, List.take_zero, val_nil, Nat.add_zero, Nat.add_zero, ← htn] at hR
    have hlt : decide (to_ - (at_ : Int) < 10) = false := by simp; omega
    clear n1 e0
    cases hx : isHex (atI (bs s) to_.toNat)
    all_goals
      by_cases hi0 : i = 0
      · have he : (to_ - (at_ : Int) == 2) = true := by simp; omega
        obtain ⟨hN, hT⟩ := hR.bad (Or.inl hi0)
        clear hR hk htn
        refine Lands.of rfl ?_
        go_wp2_with (first
          | (go_at_call 148; refine (byteAt_int _ _ (by omega) (by omega) (by assumption) _).mono ?_; rintro e w' ⟨rfl, rfl⟩)
          | (go_at_call 153; refine (inWord_any _ _).mono ?_; rintro e w' ⟨rfl, rfl⟩)
          | (go_at_call 151; refine (isDigit_any _ _).mono ?_; rintro e w' ⟨rfl, rfl⟩)
          | (go_at_call 179; refine (isHexDigit_any _ _).mono ?_; rintro e w' ⟨rfl, rfl⟩)
          | (go_at_call 180; refine (isQuotable_any _ _).mono ?_; rintro e w' ⟨rfl, rfl⟩)
          | (go_at_call 156; refine (digit_any _ (by assumption) _).mono ?_; rintro e w' ⟨rfl, rfl⟩))
        go_step3
        exact none_lands s at_ _ _ _ hN hT
      · have he : (to_ - (at_ : Int) == 2) = false := by simp; omega
        have hR2 := hR.turn (bad' := inW (atI (bs s) to_.toNat) = true) ⟨fun h => Or.inr h, fun h => h.resolve_left hi0⟩ rfl rfl
        cases hin : inW (atI (bs s) to_.toNat)
        · obtain ⟨hN, hT0⟩ := hR2.good (by rw [hin]; simp)
          have hT : T = to_ := by omega
          clear hR hR2 hk htn hT0
          subst hN hT
          refine Lands.of rfl ?_
          go_wp2_with (first
          | (go_at_call 148; refine (byteAt_int _ _ (by omega) (by omega) (by assumption) _).mono ?_; rintro e w' ⟨rfl, rfl⟩)
          | (go_at_call 153; refine (inWord_any _ _).mono ?_; rintro e w' ⟨rfl, rfl⟩)
          | (go_at_call 151; refine (isDigit_any _ _).mono ?_; rintro e w' ⟨rfl, rfl⟩)
          | (go_at_call 179; refine (isHexDigit_any _ _).mono ?_; rintro e w' ⟨rfl, rfl⟩)
          | (go_at_call 180; refine (isQuotable_any _ _).mono ?_; rintro e w' ⟨rfl, rfl⟩)
          | (go_at_call 156; refine (digit_any _ (by assumption) _).mono ?_; rintro e w' ⟨rfl, rfl⟩))
          go_step3
          go_wp2_with (first
          | (go_at_call 148; refine (byteAt_int _ _ (by omega) (by omega) (by assumption) _).mono ?_; rintro e w' ⟨rfl, rfl⟩)
          | (go_at_call 153; refine (inWord_any _ _).mono ?_; rintro e w' ⟨rfl, rfl⟩)
          | (go_at_call 151; refine (isDigit_any _ _).mono ?_; rintro e w' ⟨rfl, rfl⟩)
          | (go_at_call 179; refine (isHexDigit_any _ _).mono ?_; rintro e w' ⟨rfl, rfl⟩)
          | (go_at_call 180; refine (isQuotable_any _ _).mono ?_; rintro e w' ⟨rfl, rfl⟩)
          | (go_at_call 156; refine (digit_any _ (by assumption) _).mono ?_; rintro e w' ⟨rfl, rfl⟩))
          rw [jumps_ret]
          unfold Q28
          go_ret2
          exact ⟨rfl, rfl⟩
        · obtain ⟨hN, hT⟩ := hR2.bad hin
          clear hR hR2 hk htn
          refine Lands.of rfl ?_
          go_wp2_with (first
          | (go_at_call 148; refine (byteAt_int _ _ (by omega) (by omega) (by assumption) _).mono ?_; rintro e w' ⟨rfl, rfl⟩)
          | (go_at_call 153; refine (inWord_any _ _).mono ?_; rintro e w' ⟨rfl, rfl⟩)
          | (go_at_call 151; refine (isDigit_any _ _).mono ?_; rintro e w' ⟨rfl, rfl⟩)
          | (go_at_call 179; refine (isHexDigit_any _ _).mono ?_; rintro e w' ⟨rfl, rfl⟩)
          | (go_at_call 180; refine (isQuotable_any _ _).mono ?_; rintro e w' ⟨rfl, rfl⟩)
          | (go_at_call 156; refine (digit_any _ (by assumption) _).mono ?_; rintro e w' ⟨rfl, rfl⟩))
          go_step3
          go_wp2_with (first
          | (go_at_call 148; refine (byteAt_int _ _ (by omega) (by omega) (by assumption) _).mono ?_; rintro e w' ⟨rfl, rfl⟩)
          | (go_at_call 153; refine (inWord_any _ _).mono ?_; rintro e w' ⟨rfl, rfl⟩)
          | (go_at_call 151; refine (isDigit_any _ _).mono ?_; rintro e w' ⟨rfl, rfl⟩)
          | (go_at_call 179; refine (isHexDigit_any _ _).mono ?_; rintro e w' ⟨rfl, rfl⟩)
          | (go_at_call 180; refine (isQuotable_any _ _).mono ?_; rintro e w' ⟨rfl, rfl⟩)
          | (go_at_call 156; refine (digit_any _ (by assumption) _).mono ?_; rintro e w' ⟨rfl, rfl⟩))
          go_step3
          exact none_lands s at_ _ _ _ hN hT
  | succ j ih =>
    intro i to_ n hi hk n0 n1 hR
    intros
    have htn : to_.toNat = at_ + 2 + i := by omega
    have hs2 : s.size ≤ 4611686018427387904 := by omega
    have h0 : 0 ≤ to_ := by omega
    have h1 : to_ ≤ 4611686018427387850 := by omega
    have hlt : decide (to_ - (at_ : Int) < 10) = true := by simp; omega
    cases hx : isHex (atI (bs s) to_.toNat)
    · have hn2 := hex_small i n (by omega) n1
      have e0 : hexLen (j + 1) ((bs s).drop (at_ + 2 + i)) = 0 := hexLen_stop _ _ (Or.inl (by rw [atI_drop, Nat.add_zero, ← htn]; exact hx))
      rw [e0, List.take_zero, val_nil, Nat.add_zero, Nat.add_zero, ← htn] at hR
      clear n1 e0 ih
      by_cases hi0 : i = 0
      · have he : (to_ - (at_ : Int) == 2) = true := by simp; omega
        obtain ⟨hN, hT⟩ := hR.bad (Or.inl hi0)
        clear hR hk htn
        refine Lands.of rfl ?_
        go_wp2_with (first
          | (go_at_call 148; refine (byteAt_int _ _ (by omega) (by omega) (by assumption) _).mono ?_; rintro e w' ⟨rfl, rfl⟩)
          | (go_at_call 153; refine (inWord_any _ _).mono ?_; rintro e w' ⟨rfl, rfl⟩)
          | (go_at_call 151; refine (isDigit_any _ _).mono ?_; rintro e w' ⟨rfl, rfl⟩)
          | (go_at_call 179; refine (isHexDigit_any _ _).mono ?_; rintro e w' ⟨rfl, rfl⟩)
          | (go_at_call 180; refine (isQuotable_any _ _).mono ?_; rintro e w' ⟨rfl, rfl⟩)
          | (go_at_call 156; refine (digit_any _ (by assumption) _).mono ?_; rintro e w' ⟨rfl, rfl⟩))
        go_step3
        exact none_lands s at_ _ _ _ hN hT
      · have he : (to_ - (at_ : Int) == 2) = false := by simp; omega
        have hR2 := hR.turn (bad' := inW (atI (bs s) to_.toNat) = true) ⟨fun h => Or.inr h, fun h => h.resolve_left hi0⟩ rfl rfl
        cases hin : inW (atI (bs s) to_.toNat)
        · obtain ⟨hN, hT0⟩ := hR2.good (by rw [hin]; simp)
          have hT : T = to_ := by omega
          clear hR hR2 hk htn hT0
          subst hN hT
          refine Lands.of rfl ?_
          go_wp2_with (first
          | (go_at_call 148; refine (byteAt_int _ _ (by omega) (by omega) (by assumption) _).mono ?_; rintro e w' ⟨rfl, rfl⟩)
          | (go_at_call 153; refine (inWord_any _ _).mono ?_; rintro e w' ⟨rfl, rfl⟩)
          | (go_at_call 151; refine (isDigit_any _ _).mono ?_; rintro e w' ⟨rfl, rfl⟩)
          | (go_at_call 179; refine (isHexDigit_any _ _).mono ?_; rintro e w' ⟨rfl, rfl⟩)
          | (go_at_call 180; refine (isQuotable_any _ _).mono ?_; rintro e w' ⟨rfl, rfl⟩)
          | (go_at_call 156; refine (digit_any _ (by assumption) _).mono ?_; rintro e w' ⟨rfl, rfl⟩))
          go_step3
          go_wp2_with (first
          | (go_at_call 148; refine (byteAt_int _ _ (by omega) (by omega) (by assumption) _).mono ?_; rintro e w' ⟨rfl, rfl⟩)
          | (go_at_call 153; refine (inWord_any _ _).mono ?_; rintro e w' ⟨rfl, rfl⟩)
          | (go_at_call 151; refine (isDigit_any _ _).mono ?_; rintro e w' ⟨rfl, rfl⟩)
          | (go_at_call 179; refine (isHexDigit_any _ _).mono ?_; rintro e w' ⟨rfl, rfl⟩)
          | (go_at_call 180; refine (isQuotable_any _ _).mono ?_; rintro e w' ⟨rfl, rfl⟩)
          | (go_at_call 156; refine (digit_any _ (by assumption) _).mono ?_; rintro e w' ⟨rfl, rfl⟩))
          rw [jumps_ret]
          unfold Q28
          go_ret2
          exact ⟨rfl, rfl⟩
        · obtain ⟨hN, hT⟩ := hR2.bad hin
          clear hR hR2 hk htn
          refine Lands.of rfl ?_
          go_wp2_with (first
          | (go_at_call 148; refine (byteAt_int _ _ (by omega) (by omega) (by assumption) _).mono ?_; rintro e w' ⟨rfl, rfl⟩)
          | (go_at_call 153; refine (inWord_any _ _).mono ?_; rintro e w' ⟨rfl, rfl⟩)
          | (go_at_call 151; refine (isDigit_any _ _).mono ?_; rintro e w' ⟨rfl, rfl⟩)
          | (go_at_call 179; refine (isHexDigit_any _ _).mono ?_; rintro e w' ⟨rfl, rfl⟩)
          | (go_at_call 180; refine (isQuotable_any _ _).mono ?_; rintro e w' ⟨rfl, rfl⟩)
          | (go_at_call 156; refine (digit_any _ (by assumption) _).mono ?_; rintro e w' ⟨rfl, rfl⟩))
          go_step3
          go_wp2_with (first
          | (go_at_call 148; refine (byteAt_int _ _ (by omega) (by omega) (by assumption) _).mono ?_; rintro e w' ⟨rfl, rfl⟩)
          | (go_at_call 153; refine (inWord_any _ _).mono ?_; rintro e w' ⟨rfl, rfl⟩)
          | (go_at_call 151; refine (isDigit_any _ _).mono ?_; rintro e w' ⟨rfl, rfl⟩)
          | (go_at_call 179; refine (isHexDigit_any _ _).mono ?_; rintro e w' ⟨rfl, rfl⟩)
          | (go_at_call 180; refine (isQuotable_any _ _).mono ?_; rintro e w' ⟨rfl, rfl⟩)
          | (go_at_call 156; refine (digit_any _ (by assumption) _).mono ?_; rintro e w' ⟨rfl, rfl⟩))
          go_step3
          exact none_lands s at_ _ _ _ hN hT
    · have hhead : isHex (atI ((bs s).drop (at_ + 2 + i)) 0) = true := by rw [atI_drop, Nat.add_zero, ← htn]; exact hx
      obtain ⟨d0, d1⟩ := digI_lo _ hx
      have hv := hexTake_more j _ hhead n
      have hl := hexLen_more j _ hhead
      rw [atI_drop, List.drop_drop] at hv
      rw [List.drop_drop] at hl
      rw [hv, hl] at hR
      simp only [Nat.add_zero] at hR
      obtain ⟨q0, q1, q2⟩ := hex_step i n (digI (atI (bs s) to_.toNat)) (by omega) n0 n1 d0 d1
      have hn2 := hex_small i n (by omega) n1
      have hR2 : Res N T at_ (i + 1 + hexLen j ((bs s).drop (at_ + 2 + (i + 1))) = 0 ∨ inW (atI (bs s) (at_ + 2 + (i + 1) + hexLen j ((bs s).drop (at_ + 2 + (i + 1))))) = true)
          (val 16 (16 * n + digI (atI (bs s) to_.toNat)) (((bs s).drop (at_ + 2 + (i + 1))).take (hexLen j ((bs s).drop (at_ + 2 + (i + 1)))))) (at_ + 2 + (i + 1) + hexLen j ((bs s).drop (at_ + 2 + (i + 1)))) := by
        rw [htn]
        refine hR.turn ?_ ?_ ?_
        · rw [show at_ + 2 + (i + 1) = at_ + 2 + i + 1 by omega, show at_ + 2 + i + (hexLen j (List.drop (at_ + 2 + i + 1) (bs s)) + 1) = at_ + 2 + i + 1 + hexLen j (List.drop (at_ + 2 + i + 1) (bs s)) by omega]
          refine or_congr ?_ Iff.rfl
          omega
        · rw [show at_ + 2 + (i + 1) = at_ + 2 + i + 1 by omega]
        · rw [show at_ + 2 + (i + 1) = at_ + 2 + i + 1 by omega]; omega
      obtain ⟨c, hc⟩ : ∃ c, c = atI (bs s) to_.toNat := ⟨_, rfl⟩
      rw [← hc] at hx d0 d1 q0 q1 q2 hR2
      have hc' := hc.symm
      have hH := Hid.intro hR2
      have hH2 := Hid.intro hk
      have hH3 := Hid.intro q1
      clear hR hR2 hv hl hhead hc n1 q1 hk htn
      refine Lands.of rfl ?_
      go_wp2_with (first
      | (go_at_call 148; refine (byteAt_int _ _ (by omega) (by omega) (by assumption) _).mono ?_; rintro e w' ⟨rfl, rfl⟩)
      | (go_at_call 153; refine (inWord_any _ _).mono ?_; rintro e w' ⟨rfl, rfl⟩)
      | (go_at_call 151; refine (isDigit_any _ _).mono ?_; rintro e w' ⟨rfl, rfl⟩)
      | (go_at_call 179; refine (isHexDigit_any _ _).mono ?_; rintro e w' ⟨rfl, rfl⟩)
      | (go_at_call 180; refine (isQuotable_any _ _).mono ?_; rintro e w' ⟨rfl, rfl⟩)
      | (go_at_call 156; refine (digit_any _ (by assumption) _).mono ?_; rintro e w' ⟨rfl, rfl⟩))
      go_step3
      have hk := hH2.out
      exact ih (i + 1) _ _ (by omega) (by omega) q0 hH3.out hH.out
theorem quoted_lands (s : ByteArray) (at_ : Nat) (N T : Int) (w : World) (hs : s.size ≤ 4611686018427387800) (ha : at_ ≤ s.size)
    (hR : Res N T at_ (¬ (isQuo (atI (bs s) (at_ + 1)) = true ∧ atI (bs s) (at_ + 2) = 39)) (atI (bs s) (at_ + 1)) (at_ + 3)) {u2 u3 u4 u5 u6 u7 u8 u9 u10 u11 u12 u13 u14 u15 u16 u17 u18 u19 u20 u21 u22 u23 u24 u25 u26 u27 u28 u29 u30 u31 u32 u33 u34 u35 u36 u37 u38 u39 u40 u41 u42 u43 u44 u45 u46 u47 u48 u49 u50 u51 u52 u53 u54 u55 u56 u57 u58 u59 u60 u61 u62 u63 u64 u65 u66 u67 u68 u69 u70 u71 u72 u73 u74 u75 u76 u77 u78 u79 u80 u81 u82 u83 u84 u85 u86 u87 u88 u89 u90 u91 u92 u93 u94 u95 u96 u97 u98 u99 : Value} :
    Lands Tryz.prog (scopeOf Tryz.f154) (Q28 N T w) 0 { tmps := List.toArray (.string s :: .int .i64 (at_ : Int) :: u2 :: u3 :: u4 :: u5 :: u6 :: u7 :: u8 :: u9 :: u10 :: u11 :: u12 :: u13 :: u14 :: u15 :: u16 :: u17 :: u18 :: u19 :: u20 :: u21 :: u22 :: u23 :: u24 :: u25 :: u26 :: u27 :: u28 :: u29 :: u30 :: u31 :: u32 :: u33 :: u34 :: u35 :: u36 :: u37 :: u38 :: u39 :: u40 :: u41 :: u42 :: u43 :: u44 :: u45 :: u46 :: u47 :: u48 :: u49 :: u50 :: u51 :: u52 :: u53 :: u54 :: u55 :: u56 :: u57 :: u58 :: u59 :: u60 :: u61 :: u62 :: u63 :: u64 :: u65 :: u66 :: u67 :: u68 :: u69 :: u70 :: u71 :: u72 :: u73 :: u74 :: u75 :: u76 :: u77 :: u78 :: u79 :: u80 :: u81 :: u82 :: u83 :: u84 :: u85 :: u86 :: u87 :: u88 :: u89 :: u90 :: u91 :: u92 :: u93 :: u94 :: u95 :: u96 :: u97 :: u98 :: u99 :: []), defers := [] } w := by
  have e1 : ((at_ : Int) + 1).toNat = at_ + 1 := by omega
  have e2 : ((at_ : Int) + 2).toNat = at_ + 2 := by omega
  have hs2 : s.size ≤ 4611686018427387904 := by omega
  cases hq : isQuo (atI (bs s) (at_ + 1))
  · obtain ⟨hN, hT⟩ := hR.bad (by rw [hq]; simp)
    clear hR
    subst hN hT
    refine Lands.of rfl ?_
    go_wp2_with (first
      | (go_at_call 148; refine (byteAt_int _ _ (by omega) (by omega) (by assumption) _).mono ?_; rintro e w' ⟨rfl, rfl⟩)
      | (go_at_call 153; refine (inWord_any _ _).mono ?_; rintro e w' ⟨rfl, rfl⟩)
      | (go_at_call 151; refine (isDigit_any _ _).mono ?_; rintro e w' ⟨rfl, rfl⟩)
      | (go_at_call 179; refine (isHexDigit_any _ _).mono ?_; rintro e w' ⟨rfl, rfl⟩)
      | (go_at_call 180; refine (isQuotable_any _ _).mono ?_; rintro e w' ⟨rfl, rfl⟩)
      | (go_at_call 156; refine (digit_any _ (by assumption) _).mono ?_; rintro e w' ⟨rfl, rfl⟩))
    go_step3
    go_wp2
    rw [jumps_ret]
    unfold Q28
    go_ret2
    exact ⟨rfl, rfl⟩
  · by_cases h2 : atI (bs s) (at_ + 2) = 39
    · obtain ⟨hN, hT⟩ := hR.good (by simp [hq, h2])
      have hlt : at_ + 1 < s.size := by
        apply Decidable.byContradiction
        intro hn
        rw [atI_out (bs s) (at_ + 2) (by rw [bs_length]; omega)] at h2
        omega
      have hg := atI_get s (at_ + 1) hlt
      clear hR
      have hT' : T = (at_ : Int) + 3 := by omega
      subst hN hT'
      clear hT
      have hgi : ((s[((at_ : Int) + 1).toNat]'(by omega)).toNat : Int) = atI (bs s) (at_ + 1) := by rw [← hg]; congr 2
      have hb0 := atI_lo (bs s) (at_ + 1)
      have hb1 := atI_hi (bs s) (at_ + 1)
      refine Lands.of rfl ?_
      go_wp2_with (first
      | (go_at_call 148; refine (byteAt_int _ _ (by omega) (by omega) (by assumption) _).mono ?_; rintro e w' ⟨rfl, rfl⟩)
      | (go_at_call 153; refine (inWord_any _ _).mono ?_; rintro e w' ⟨rfl, rfl⟩)
      | (go_at_call 151; refine (isDigit_any _ _).mono ?_; rintro e w' ⟨rfl, rfl⟩)
      | (go_at_call 179; refine (isHexDigit_any _ _).mono ?_; rintro e w' ⟨rfl, rfl⟩)
      | (go_at_call 180; refine (isQuotable_any _ _).mono ?_; rintro e w' ⟨rfl, rfl⟩)
      | (go_at_call 156; refine (digit_any _ (by assumption) _).mono ?_; rintro e w' ⟨rfl, rfl⟩))
      rw [jumps_ret]
      unfold Q28
      go_ret2
      exact ⟨by first | rfl | (simp only [hg]) | (simp only [hgi]), rfl⟩
    · obtain ⟨hN, hT⟩ := hR.bad (by simp [h2])
      have h2' : (atI (bs s) (at_ + 2) == 39) = false := by simpa using h2
      clear hR h2
      subst hN hT
      refine Lands.of rfl ?_
      go_wp2_with (first
      | (go_at_call 148; refine (byteAt_int _ _ (by omega) (by omega) (by assumption) _).mono ?_; rintro e w' ⟨rfl, rfl⟩)
      | (go_at_call 153; refine (inWord_any _ _).mono ?_; rintro e w' ⟨rfl, rfl⟩)
      | (go_at_call 151; refine (isDigit_any _ _).mono ?_; rintro e w' ⟨rfl, rfl⟩)
      | (go_at_call 179; refine (isHexDigit_any _ _).mono ?_; rintro e w' ⟨rfl, rfl⟩)
      | (go_at_call 180; refine (isQuotable_any _ _).mono ?_; rintro e w' ⟨rfl, rfl⟩)
      | (go_at_call 156; refine (digit_any _ (by assumption) _).mono ?_; rintro e w' ⟨rfl, rfl⟩))
      go_step3
      go_wp2
      rw [jumps_ret]
      unfold Q28
      go_ret2
      exact ⟨rfl, rfl⟩
end Go.Proofs.YtmndccbeddaphaaGreatDoor
