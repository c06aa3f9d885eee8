/- lex.numberAt: the number at a place, and the place behind it. -/
import Derived.Shelf.Lays
import Derived.Shelf.Lays2
import Derived.Shelf.LaysM
import Derived.Test.YtogkchgjpflmjaaGreatDoorProg
import Derived.Test.YtogkchgjpflmjaaGreatDoorRows
import Derived.WalkKit
import Derived.ProofKit
import Derived.OpenShut
import Derived.ShutString
import Derived.ChangeOld
import Derived.Below
import Derived.WalkMore
import Derived.ScopeJumps
import Derived.Lib.Bytealg
import Derived.Lib.IndexAny
import Derived.Lib.Strings
import Derived.Lib.Walk
import Derived.Lib.BufferWrite
import Derived.Lib.UnsafeStr
import Derived.Lib.Hide
import Derived.Laws.MakeOwn
/- The library's slices.Sort, slices.Compact, slices.BinarySearch at texts, and strconv.Itoa: the shelf's layings at this program's numbers. -/
namespace Go.Proofs
open Go.Shelf
def Tryz.laysStrSort_ren : Go.Shelf.Ren := ⟨fun | 190 => 74 | 125 => 109 | 258 => 108 | 128 => 142 | 129 => 143 | 302 => 134 | 303 => 135 | 304 => 136 | 305 => 137 | 306 => 138 | 307 => 139 | 308 => 114 | 309 => 140 | 310 => 141 | 333 => 160 | 329 => 161 | 330 => 162 | 334 => 163 | 335 => 164 | 336 => 146 | 344 => 180 | n => n, fun | 31 => 24 | 9 => 9 | 3 => 3 | 46 => 125 | 0 => 0 | 51 => 87 | 53 => 224 | 4 => 4 | 183 => 247 | 182 => 246 | 131 => 76 | 5 => 5 | 218 => 266 | 222 => 270 | 228 => 286 | 229 => 273 | n => n, fun | n => n⟩
theorem Tryz.laysStrSort : Go.Proofs.Lays.n190 Tryz.prog Tryz.laysStrSort_ren := {
  mixed := by kernel_rfl
  f125 := Tryz.func109.trans (congrArg some (by kernel_rfl))
  f128 := Tryz.func142.trans (congrArg some (by kernel_rfl))
  f129 := Tryz.func143.trans (congrArg some (by kernel_rfl))
  f190 := Tryz.func74.trans (congrArg some (by kernel_rfl))
  f258 := Tryz.func108.trans (congrArg some (by kernel_rfl))
  f302 := Tryz.func134.trans (congrArg some (by kernel_rfl))
  f303 := Tryz.func135.trans (congrArg some (by kernel_rfl))
  f304 := Tryz.func136.trans (congrArg some (by kernel_rfl))
  f305 := Tryz.func137.trans (congrArg some (by kernel_rfl))
  f306 := Tryz.func138.trans (congrArg some (by kernel_rfl))
  f307 := Tryz.func139.trans (congrArg some (by kernel_rfl))
  f308 := Tryz.func114.trans (congrArg some (by kernel_rfl))
  f309 := Tryz.func140.trans (congrArg some (by kernel_rfl))
  f310 := Tryz.func141.trans (congrArg some (by kernel_rfl))
  f329 := Tryz.func161.trans (congrArg some (by kernel_rfl))
  f330 := Tryz.func162.trans (congrArg some (by kernel_rfl))
  f333 := Tryz.func160.trans (congrArg some (by kernel_rfl))
  f334 := Tryz.func163.trans (congrArg some (by kernel_rfl))
  f335 := Tryz.func164.trans (congrArg some (by kernel_rfl))
  f336 := Tryz.func146.trans (congrArg some (by kernel_rfl))
  f344 := Tryz.func180.trans (congrArg some (by kernel_rfl))
  t0 := Tryz.underlying0
  a0 := Tryz.isAgg0
  z0 := Tryz.sizeOf0
  v0 := Tryz.zeroValue0
  t3 := Tryz.underlying3
  a3 := Tryz.isAgg3
  z3 := Tryz.sizeOf3
  v3 := Tryz.zeroValue3
  t4 := Tryz.underlying4
  a4 := Tryz.isAgg4
  z4 := Tryz.sizeOf4
  v4 := Tryz.zeroValue4
  t5 := Tryz.underlying5
  a5 := Tryz.isAgg5
  z5 := Tryz.sizeOf5
  v5 := Tryz.zeroValue5
  t9 := Tryz.underlying9
  a9 := Tryz.isAgg9
  z9 := Tryz.sizeOf9
  v9 := Tryz.zeroValue9
  t31 := Tryz.underlying24
  a31 := Tryz.isAgg24
  z31 := Tryz.sizeOf24
  v31 := Tryz.zeroValue24
  t46 := Tryz.underlying125
  a46 := Tryz.isAgg125
  z46 := Tryz.sizeOf125
  v46 := Tryz.zeroValue125
  t51 := Tryz.underlying87
  a51 := Tryz.isAgg87
  z51 := Tryz.sizeOf87
  v51 := Tryz.zeroValue87
  t53 := Tryz.underlying224
  a53 := Tryz.isAgg224
  z53 := Tryz.sizeOf224
  v53 := Tryz.zeroValue224
  t131 := Tryz.underlying76
  a131 := Tryz.isAgg76
  z131 := Tryz.sizeOf76
  v131 := Tryz.zeroValue76
  t182 := Tryz.underlying246
  a182 := Tryz.isAgg246
  z182 := Tryz.sizeOf246
  v182 := Tryz.zeroValue246
  t183 := Tryz.underlying247
  a183 := Tryz.isAgg247
  z183 := Tryz.sizeOf247
  v183 := Tryz.zeroValue247
  t218 := Tryz.underlying266
  a218 := Tryz.isAgg266
  z218 := Tryz.sizeOf266
  v218 := Tryz.zeroValue266
  t222 := Tryz.underlying270
  a222 := Tryz.isAgg270
  z222 := Tryz.sizeOf270
  v222 := Tryz.zeroValue270
  t228 := Tryz.underlying286
  a228 := Tryz.isAgg286
  z228 := Tryz.sizeOf286
  v228 := Tryz.zeroValue286
  t229 := Tryz.underlying273
  a229 := Tryz.isAgg273
  z229 := Tryz.sizeOf273
  v229 := Tryz.zeroValue273 }
def Tryz.laysCompact_ren : Go.Shelf.Ren := ⟨fun | 194 => 75 | n => n, fun | 31 => 24 | 9 => 9 | 3 => 3 | 4 => 4 | 0 => 0 | n => n, fun | n => n⟩
theorem Tryz.laysCompact : Go.Proofs.Lays.n194 Tryz.prog Tryz.laysCompact_ren := {
  mixed := by kernel_rfl
  f194 := Tryz.func75.trans (congrArg some (by kernel_rfl))
  t0 := Tryz.underlying0
  a0 := Tryz.isAgg0
  z0 := Tryz.sizeOf0
  v0 := Tryz.zeroValue0
  t3 := Tryz.underlying3
  a3 := Tryz.isAgg3
  z3 := Tryz.sizeOf3
  v3 := Tryz.zeroValue3
  t4 := Tryz.underlying4
  a4 := Tryz.isAgg4
  z4 := Tryz.sizeOf4
  v4 := Tryz.zeroValue4
  t9 := Tryz.underlying9
  a9 := Tryz.isAgg9
  z9 := Tryz.sizeOf9
  v9 := Tryz.zeroValue9
  t31 := Tryz.underlying24
  a31 := Tryz.isAgg24
  z31 := Tryz.sizeOf24
  v31 := Tryz.zeroValue24 }
def Tryz.laysSearch_ren : Go.Shelf.Ren := ⟨fun | 26 => 81 | 33 => 114 | 34 => 115 | 38 => 146 | n => n, fun | 24 => 24 | 9 => 9 | 3 => 3 | 4 => 4 | 40 => 125 | 0 => 0 | n => n, fun | n => n⟩
theorem Tryz.laysSearch : Go.Proofs.Lays2.n26 Tryz.prog Tryz.laysSearch_ren := {
  mixed := by kernel_rfl
  f26 := Tryz.func81.trans (congrArg some (by kernel_rfl))
  f33 := Tryz.func114.trans (congrArg some (by kernel_rfl))
  f34 := Tryz.func115.trans (congrArg some (by kernel_rfl))
  f38 := Tryz.func146.trans (congrArg some (by kernel_rfl))
  t0 := Tryz.underlying0
  a0 := Tryz.isAgg0
  z0 := Tryz.sizeOf0
  v0 := Tryz.zeroValue0
  t3 := Tryz.underlying3
  a3 := Tryz.isAgg3
  z3 := Tryz.sizeOf3
  v3 := Tryz.zeroValue3
  t4 := Tryz.underlying4
  a4 := Tryz.isAgg4
  z4 := Tryz.sizeOf4
  v4 := Tryz.zeroValue4
  t9 := Tryz.underlying9
  a9 := Tryz.isAgg9
  z9 := Tryz.sizeOf9
  v9 := Tryz.zeroValue9
  t24 := Tryz.underlying24
  a24 := Tryz.isAgg24
  z24 := Tryz.sizeOf24
  v24 := Tryz.zeroValue24
  t40 := Tryz.underlying125
  a40 := Tryz.isAgg125
  z40 := Tryz.sizeOf125
  v40 := Tryz.zeroValue125 }
def Tryz.laysItoa_ren : Go.Shelf.Ren := ⟨fun | 171 => 84 | 243 => 118 | 246 => 152 | 283 => 174 | 284 => 175 | 285 => 176 | 286 => 177 | 129 => 143 | 317 => 186 | 318 => 187 | 319 => 188 | 320 => 189 | 337 => 194 | 338 => 195 | n => n, fun | 3 => 3 | 9 => 9 | 2 => 2 | 4 => 4 | 171 => 280 | 0 => 0 | 53 => 224 | 37 => 33 | 5 => 5 | 173 => 282 | 212 => 299 | 51 => 87 | 20 => 20 | 213 => 300 | 46 => 125 | 232 => 305 | 233 => 306 | n => n, fun | 17 => 4 | 18 => 5 | 19 => 6 | n => n⟩
theorem Tryz.laysItoa : Go.Proofs.LaysM.n171 Tryz.prog Tryz.laysItoa_ren := {
  mixed := by kernel_rfl
  f129 := Tryz.func143.trans (congrArg some (by kernel_rfl))
  f171 := Tryz.func84.trans (congrArg some (by kernel_rfl))
  f243 := Tryz.func118.trans (congrArg some (by kernel_rfl))
  f246 := Tryz.func152.trans (congrArg some (by kernel_rfl))
  f283 := Tryz.func174.trans (congrArg some (by kernel_rfl))
  f284 := Tryz.func175.trans (congrArg some (by kernel_rfl))
  f285 := Tryz.func176.trans (congrArg some (by kernel_rfl))
  f286 := Tryz.func177.trans (congrArg some (by kernel_rfl))
  f317 := Tryz.func186.trans (congrArg some (by kernel_rfl))
  f318 := Tryz.func187.trans (congrArg some (by kernel_rfl))
  f319 := Tryz.func188.trans (congrArg some (by kernel_rfl))
  f320 := Tryz.func189.trans (congrArg some (by kernel_rfl))
  f337 := Tryz.func194.trans (congrArg some (by kernel_rfl))
  f338 := Tryz.func195.trans (congrArg some (by kernel_rfl))
  t0 := Tryz.underlying0
  a0 := Tryz.isAgg0
  z0 := Tryz.sizeOf0
  v0 := Tryz.zeroValue0
  t2 := Tryz.underlying2
  a2 := Tryz.isAgg2
  z2 := Tryz.sizeOf2
  v2 := Tryz.zeroValue2
  t3 := Tryz.underlying3
  a3 := Tryz.isAgg3
  z3 := Tryz.sizeOf3
  v3 := Tryz.zeroValue3
  t4 := Tryz.underlying4
  a4 := Tryz.isAgg4
  z4 := Tryz.sizeOf4
  v4 := Tryz.zeroValue4
  t5 := Tryz.underlying5
  a5 := Tryz.isAgg5
  z5 := Tryz.sizeOf5
  v5 := Tryz.zeroValue5
  t9 := Tryz.underlying9
  a9 := Tryz.isAgg9
  z9 := Tryz.sizeOf9
  v9 := Tryz.zeroValue9
  t20 := Tryz.underlying20
  a20 := Tryz.isAgg20
  z20 := Tryz.sizeOf20
  v20 := Tryz.zeroValue20
  t37 := Tryz.underlying33
  a37 := Tryz.isAgg33
  z37 := Tryz.sizeOf33
  v37 := Tryz.zeroValue33
  t46 := Tryz.underlying125
  a46 := Tryz.isAgg125
  z46 := Tryz.sizeOf125
  v46 := Tryz.zeroValue125
  t51 := Tryz.underlying87
  a51 := Tryz.isAgg87
  z51 := Tryz.sizeOf87
  v51 := Tryz.zeroValue87
  t53 := Tryz.underlying224
  a53 := Tryz.isAgg224
  z53 := Tryz.sizeOf224
  v53 := Tryz.zeroValue224
  t171 := Tryz.underlying280
  a171 := Tryz.isAgg280
  z171 := Tryz.sizeOf280
  v171 := Tryz.zeroValue280
  t173 := Tryz.underlying282
  a173 := Tryz.isAgg282
  z173 := Tryz.sizeOf282
  v173 := Tryz.zeroValue282
  t212 := Tryz.underlying299
  a212 := Tryz.isAgg299
  z212 := Tryz.sizeOf299
  v212 := Tryz.zeroValue299
  t213 := Tryz.underlying300
  a213 := Tryz.isAgg300
  z213 := Tryz.sizeOf300
  t232 := Tryz.underlying305
  a232 := Tryz.isAgg305
  z232 := Tryz.sizeOf305
  v232 := Tryz.zeroValue305
  t233 := Tryz.underlying306
  a233 := Tryz.isAgg306
  z233 := Tryz.sizeOf306
  v233 := Tryz.zeroValue306
  g17 := by kernel_rfl
  g18 := by kernel_rfl
  g19 := by kernel_rfl
  i0 := by kernel_rfl
  i2 := by kernel_rfl
  i3 := by kernel_rfl
  i4 := by kernel_rfl
  i5 := by kernel_rfl
  i9 := by kernel_rfl
  i20 := by kernel_rfl
  i37 := by kernel_rfl
  i46 := by kernel_rfl
  i51 := by kernel_rfl
  i53 := by kernel_rfl
  i171 := by kernel_rfl
  i173 := by kernel_rfl
  i212 := by kernel_rfl
  i232 := by kernel_rfl
  i233 := by kernel_rfl
  m17 := by kernel_rfl
  m18 := by kernel_rfl
  m19 := by kernel_rfl }
end Go.Proofs
/- A scope whose run jumps among many labels: what it is to go on from a label ('Lands'), one law a jump, one for the scope; proofs by plain induction. -/
namespace Go.Proofs.YtogkchgjpflmjaaGreatDoor
open Go.ChangeShapes Go.WideShapes Go.ChangeAt Go.RowKit
set_option linter.unusedVariables false
set_option maxRecDepth 100000
def Lands (P : Program) (c : Code) (Q : Exit → Act → World → Prop) (l : Nat) (a : Act) (w : World) : Prop :=
  ∃ rest, findLabel c l = some rest ∧ ∀ (b : Frame) (k : List Item) (cs : List Frame),
    ∃ e a' w', Q e a' w' ∧ Arrives P (lone (b.at a (.code rest :: .inScope c :: k)) cs w) b k cs e a' w'
def jumps (J : Nat → Act → World → Prop) (Q : Exit → Act → World → Prop) : Exit → Act → World → Prop
  | .goto l, a, w => J l a w
  | e, a, w => Q e a w
section
variable {P : Program} {Q : Exit → Act → World → Prop} {a : Act} {w : World} {J : Nat → Act → World → Prop}
theorem jumps_ret : jumps J Q .ret a w = Q .ret a w := rfl
theorem arrives_scope {c rest : Code} (h : rest.wp P (jumps (Lands P c Q) Q) a w) (b : Frame) (k : List Item) (cs : List Frame) :
    ∃ e a' w', Q e a' w' ∧ Arrives P (lone (b.at a (.code rest :: .inScope c :: k)) cs w) b k cs e a' w' := by
  obtain ⟨e, a₁, w₁, hq, harr⟩ := h b (.inScope c :: k) cs
  cases e with
  | normal => exact ⟨.normal, a₁, w₁, hq, Steps.trans harr (.one step_inScope)⟩
  | exit id => exact ⟨.exit id, a₁, w₁, hq, fun k' hk => harr k' (by simp [exitTo, hk])⟩
  | goto l =>
    obtain ⟨rest', hf, hrest⟩ := hq
    obtain ⟨e₂, a₂, w₂, hq₂, harr₂⟩ := hrest b k cs
    have hg : gotoIn l (.inScope c :: k) = some (.code rest' :: .inScope c :: k) := by simp [gotoIn, hf]
    exact ⟨e₂, a₂, w₂, hq₂, .of_steps (harr _ hg) harr₂⟩
  | ret => exact ⟨_, a₁, w₁, hq, harr⟩
  | panic ch => exact ⟨_, a₁, w₁, hq, harr⟩
  | outgrown => exact ⟨_, a₁, w₁, hq, harr⟩
theorem Lands.of {c rest : Code} {l : Nat} (hf : findLabel c l = some rest) (h : rest.wp P (jumps (Lands P c Q) Q) a w) : Lands P c Q l a w :=
  ⟨rest, hf, fun b k cs => arrives_scope h b k cs⟩
theorem wp_scope_lands {c : Code} (h : c.wp P (jumps (Lands P c Q) Q) a w) : (Code.scope c).wp P Q a w := by
  intro b k cs
  obtain ⟨e, a', w', hq, harr⟩ := arrives_scope h b k cs
  exact ⟨e, a', w', hq, .of_steps (.one step_scope) harr⟩
def scopeOf (f : Func) : Code := match f.body with | some (.seq _ (.scope c)) => c | _ => .skip
theorem wp_scope_at {c : Code} (f : Func) (hc : scopeOf f = c) (h : c.wp P (jumps (Lands P (scopeOf f) Q) Q) a w) : (Code.scope c).wp P Q a w := by
  subst hc
  exact wp_scope_lands h
end
end Go.Proofs.YtogkchgjpflmjaaGreatDoor
/- Contracts of lex's small functions that only compute, and of the document's: kinds of bytes, a digit's number, the byte at a place. -/
namespace Go.Proofs.YtogkchgjpflmjaaGreatDoor
open Go.ChangeShapes Go.WideShapes Go.ChangeAt Go.RowKit
set_option linter.unusedVariables false
set_option maxRecDepth 100000
def isBl (c : Int) : Bool := c == 9 || c == 13 || c == 32
def isLet (c : Int) : Bool := decide (97 ≤ c ∧ c ≤ 122) || decide (65 ≤ c ∧ c ≤ 90) || c == 95
def isDig (c : Int) : Bool := decide (48 ≤ c ∧ c ≤ 57)
def inW (c : Int) : Bool := isLet c || isDig c
def isHex (c : Int) : Bool := isDig c || decide (97 ≤ c ∧ c ≤ 102)
def isQuo (c : Int) : Bool := decide (32 ≤ c ∧ c ≤ 126) && c != 39
def isSg (c : Int) : Bool := c == 58 || c == 44 || c == 40 || c == 41 || c == 43 || c == 45 || c == 42 || c == 61
def digI (c : Int) : Int := if 48 ≤ c ∧ c ≤ 57 then c - 48 else c - 97 + 10
def bs (s : ByteArray) : List UInt8 := s.data.toList
def atI (l : List UInt8) (k : Nat) : Int := ((l.getD k 0).toNat : Int)
theorem bs_length (s : ByteArray) : (bs s).length = s.size := (Lib.size_eq s).symm
theorem atI_lo (l : List UInt8) (k : Nat) : 0 ≤ atI l k := by unfold atI; omega
theorem atI_hi (l : List UInt8) (k : Nat) : atI l k ≤ 255 := by
  unfold atI
  have := UInt8.toNat_lt (l.getD k 0)
  omega
theorem atI_out (l : List UInt8) (k : Nat) (h : l.length ≤ k) : atI l k = 0 := by
  unfold atI
  rw [List.getD_eq_getElem?_getD, List.getElem?_eq_none h]
  rfl
theorem atI_drop (l : List UInt8) (a i : Nat) : atI (l.drop a) i = atI l (a + i) := by
  unfold atI
  simp [List.getD_eq_getElem?_getD, List.getElem?_drop]
theorem atI_get (s : ByteArray) (k : Nat) (h : k < s.size) : ((s[k].toNat : Nat) : Int) = atI (bs s) k := by
  unfold atI bs
  have : s.data.toList.getD k 0 = s[k] := by
    rw [List.getD_eq_getElem?_getD]
    have h' : k < s.data.toList.length := by rw [← Lib.size_eq]; exact h
    rw [List.getElem?_eq_getElem h']
    rfl
  rw [this]
theorem ret_bool {x y : Bool} {w : World} (h : x = y) : Ending.returned (.bool x) = Ending.returned (.bool y) ∧ w = w := ⟨by rw [h], rfl⟩
theorem isBlank_any (c : Int) (w : World) :
    Calls Tryz.prog 124 #[.int .u8 c] w fun e w' => e = .returned (.bool (isBl c)) ∧ w' = w := by
  go_enter Tryz.func124, Tryz.ntmps124
  go_wp2
  all_goals
    go_ret
    refine ret_bool ?_
    first
      | rfl
      | (rw [Bool.eq_iff_iff]; simp [isBl]; try omega)
theorem isLetter_any (c : Int) (w : World) :
    Calls Tryz.prog 125 #[.int .u8 c] w fun e w' => e = .returned (.bool (isLet c)) ∧ w' = w := by
  go_enter Tryz.func125, Tryz.ntmps125
  go_wp2
  all_goals
    go_ret
    refine ret_bool ?_
    first
      | rfl
      | (rw [Bool.eq_iff_iff]; simp [isLet]; try omega)
theorem isDigit_any (c : Int) (w : World) :
    Calls Tryz.prog 126 #[.int .u8 c] w fun e w' => e = .returned (.bool (isDig c)) ∧ w' = w := by
  go_enter Tryz.func126, Tryz.ntmps126
  go_wp2
  all_goals
    go_ret
    refine ret_bool ?_
    first
      | rfl
      | (rw [Bool.eq_iff_iff]; simp [isDig]; try omega)
theorem isQuotable_any (c : Int) (w : World) :
    Calls Tryz.prog 159 #[.int .u8 c] w fun e w' => e = .returned (.bool (isQuo c)) ∧ w' = w := by
  go_enter Tryz.func159, Tryz.ntmps159
  go_wp2
  all_goals
    go_ret
    refine ret_bool ?_
    first
      | rfl
      | (rw [Bool.eq_iff_iff]; simp [isQuo]; try omega)
theorem inWord_any (c : Int) (w : World) :
    Calls Tryz.prog 128 #[.int .u8 c] w fun e w' => e = .returned (.bool (inW c)) ∧ w' = w := by
  cases h : isLet c
  all_goals
    go_enter Tryz.func128, Tryz.ntmps128
    go_wp2_with (first
      | (go_at_call 125; refine (isLetter_any _ _).mono ?_; rintro e w' ⟨rfl, rfl⟩)
      | (go_at_call 126; refine (isDigit_any _ _).mono ?_; rintro e w' ⟨rfl, rfl⟩))
    go_ret
    refine ret_bool ?_
    simp [inW, h]
theorem isHexDigit_any (c : Int) (w : World) :
    Calls Tryz.prog 158 #[.int .u8 c] w fun e w' => e = .returned (.bool (isHex c)) ∧ w' = w := by
  cases h : isDig c
  all_goals
    go_enter Tryz.func158, Tryz.ntmps158
    go_wp2_with (go_at_call 126; refine (isDigit_any _ _).mono ?_; rintro e w' ⟨rfl, rfl⟩)
    all_goals
      go_ret
      refine ret_bool ?_
      first
        | rfl
        | (rw [Bool.eq_iff_iff]; simp [isHex, h]; try omega)
theorem digit_any (c : Int) (hc : isHex c = true) (w : World) :
    Calls Tryz.prog 131 #[.int .u8 c] w fun e w' => e = .returned (.int .u64 (digI c)) ∧ w' = w := by
  cases h : isDig c
  · have h1 : 97 ≤ c ∧ c ≤ 102 := by simp [isHex, h] at hc; exact hc
    have h2 : digI c = c - 97 + 10 := by unfold digI; rw [if_neg]; omega
    rw [h2]
    go_enter Tryz.func131, Tryz.ntmps131
    go_wp2_with (go_at_call 126; refine (isDigit_any _ _).mono ?_; rintro e w' ⟨rfl, rfl⟩)
    go_ret
    refine ⟨?_, rfl⟩
    try first | rfl | (congr 2; omega)
  · have h1 : 48 ≤ c ∧ c ≤ 57 := by simpa [isDig] using h
    have h2 : digI c = c - 48 := by unfold digI; rw [if_pos h1]
    rw [h2]
    go_enter Tryz.func131, Tryz.ntmps131
    go_wp2_with (go_at_call 126; refine (isDigit_any _ _).mono ?_; rintro e w' ⟨rfl, rfl⟩)
    go_ret
    refine ⟨?_, rfl⟩
    try first | rfl | (congr 2; omega)
theorem byteAt_any (s : ByteArray) (k : Nat) (hk : k ≤ 4611686018427387904) (hs : s.size ≤ 4611686018427387904) (w : World) :
    Calls Tryz.prog 123 #[.string s, .int .i64 k] w fun e w' => e = .returned (.int .u8 (atI (bs s) k)) ∧ w' = w := by
  by_cases h : s.size ≤ k
  · rw [atI_out _ _ (by rw [bs_length]; exact h)]
    go_enter Tryz.func123, Tryz.ntmps123
    go_wp2
    go_ret
    exact ⟨rfl, rfl⟩
  · have h' : k < s.size := by omega
    rw [← atI_get s k h']
    go_enter Tryz.func123, Tryz.ntmps123
    go_wp2
    go_ret
    exact ⟨rfl, rfl⟩
theorem liteIndexByte_any (s : ByteArray) (c : Int) (w : World) :
    Calls Tryz.prog 153 #[.string s, .int .u8 c] w fun e w' => e = .returned (.int .i64 (Lib.indexByte s.data.toList c.toNat.toUInt8)) ∧ w' = w := by
  go_enter Tryz.func153, Tryz.ntmps153
  go_wp2
  rw [run_callFunc_extern Tryz.func178 (by kernel_rfl) (by kernel_rfl) (by kernel_rfl) (e := Extern.BytealgIndexByte.indexByte) (by kernel_rfl), Lib.run_indexByteString]
  simp only [Result.andThen]
  rw [Oper.upon_value]
  go_wp2
  go_ret
  exact ⟨rfl, rfl⟩
theorem indexByte_any (s : ByteArray) (c : Int) (w : World) :
    Calls Tryz.prog 157 #[.string s, .int .u8 c] w fun e w' => e = .returned (.int .i64 (Lib.indexByte s.data.toList c.toNat.toUInt8)) ∧ w' = w := by
  go_enter Tryz.func157, Tryz.ntmps157
  go_wp2_with (go_at_call 153; refine (liteIndexByte_any _ _ _).mono ?_; rintro e w' ⟨rfl, rfl⟩)
  go_ret
  exact ⟨rfl, rfl⟩
set_option maxRecDepth 100000 in
theorem sign_eq (c : Int) (h0 : 0 ≤ c) (h1 : c ≤ 255) : decide (0 ≤ Lib.indexByte [58, 44, 40, 41, 43, 45, 42, 61] c.toNat.toUInt8) = isSg c := by
  rw [← Lib.contains_iff_indexByte]
  obtain ⟨n, rfl⟩ := Int.eq_ofNat_of_zero_le h0
  have hn : n < 256 := by omega
  clear h0 h1
  simp only [Int.toNat_natCast]
  revert n
  decide
theorem isSign_any (c : Int) (h0 : 0 ≤ c) (h1 : c ≤ 255) (w : World) :
    Calls Tryz.prog 127 #[.int .u8 c] w fun e w' => e = .returned (.bool (isSg c)) ∧ w' = w := by
  rw [← sign_eq c h0 h1]
  go_enter Tryz.func127, Tryz.ntmps127
  go_wp2_with (go_at_call 157; refine (indexByte_any _ _ _).mono ?_; rintro e w' ⟨rfl, rfl⟩)
  go_ret
  exact ⟨rfl, rfl⟩
end Go.Proofs.YtogkchgjpflmjaaGreatDoor
/- What a number, a token and the tokens of a text are, as functions on its bytes. -/
namespace Go.Proofs.YtogkchgjpflmjaaGreatDoor
set_option linter.unusedVariables false
set_option maxRecDepth 100000
def lenW (p : Int → Bool) (r : List UInt8) : Nat := (r.takeWhile fun b => p (b.toNat : Int)).length
theorem atI_zero_cons (b : UInt8) (r : List UInt8) : atI (b :: r) 0 = (b.toNat : Int) := rfl
theorem atI_nil (k : Nat) : atI [] k = 0 := by simp [atI]
theorem lenW_stop (p : Int → Bool) (r : List UInt8) (h : p (atI r 0) = false) : lenW p r = 0 := by
  cases r with
  | nil => rfl
  | cons b r => simp [lenW, List.takeWhile, atI_zero_cons] at h ⊢; simp [h]
theorem lenW_more (p : Int → Bool) (hp : p 0 = false) (r : List UInt8) (h : p (atI r 0) = true) : lenW p r = lenW p (r.drop 1) + 1 ∧ 0 < r.length := by
  cases r with
  | nil => rw [atI_nil, hp] at h; cases h
  | cons b r => simp [lenW, List.takeWhile, atI_zero_cons] at h ⊢; simp [h]
theorem lenW_le (p : Int → Bool) (r : List UInt8) : lenW p r ≤ r.length := by
  unfold lenW
  exact (List.takeWhile_sublist _).length_le
theorem lenW_take (p : Int → Bool) (r : List UInt8) : r.takeWhile (fun b => p (b.toNat : Int)) = r.take (lenW p r) := by
  unfold lenW
  induction r with
  | nil => rfl
  | cons b r ih =>
    simp only [List.takeWhile]
    split
    · simp; exact ih
    · simp
theorem take_all (p : Int → Bool) (r : List UInt8) : ∀ b ∈ r.take (lenW p r), p (b.toNat : Int) = true := by
  rw [← lenW_take]
  induction r with
  | nil => intro b hb; simp at hb
  | cons x r ih =>
    intro b hb
    cases hx : p (x.toNat : Int)
    · simp [List.takeWhile, hx] at hb
    · simp only [List.takeWhile, hx, List.mem_cons] at hb
      rcases hb with rfl | hb
      · exact hx
      · exact ih b hb
theorem inW_zero : inW 0 = false := rfl
theorem isDig_zero : isDig 0 = false := rfl
theorem isHex_zero : isHex 0 = false := rfl
def val (base : Int) (n : Int) (ds : List UInt8) : Int := ds.foldl (fun n b => base * n + digI (b.toNat : Int)) n
theorem digI_lo (c : Int) (h : isHex c = true) : 0 ≤ digI c ∧ digI c ≤ 15 := by
  simp [isHex, isDig] at h
  unfold digI
  split <;> omega
theorem digI_dig (c : Int) (h : isDig c = true) : 0 ≤ digI c ∧ digI c ≤ 9 := by
  simp [isDig] at h
  unfold digI
  rw [if_pos h]
  omega
theorem isHex_of_dig (c : Int) (h : isDig c = true) : isHex c = true := by simp [isHex, h]
theorem val_cons (base n : Int) (b : UInt8) (ds : List UInt8) : val base n (b :: ds) = val base (base * n + digI (b.toNat : Int)) ds := rfl
theorem val_nil (base n : Int) : val base n [] = n := rfl
theorem val_ge (n : Int) (ds : List UInt8) (hn : 0 ≤ n) (h : ∀ b ∈ ds, isDig (b.toNat : Int) = true) : n ≤ val 10 n ds := by
  induction ds generalizing n with
  | nil => exact Int.le_refl _
  | cons b ds ih =>
    have hb := digI_dig _ (h b (by simp))
    rw [val_cons]
    have := ih (10 * n + digI (b.toNat : Int)) (by omega) (fun x hx => h x (by simp [hx]))
    omega
theorem take_more (p : Int → Bool) (hp : p 0 = false) (r : List UInt8) (h : p (atI r 0) = true) (base n : Int) :
    val base n (r.take (lenW p r)) = val base (base * n + digI (atI r 0)) ((r.drop 1).take (lenW p (r.drop 1))) := by
  cases r with
  | nil => rw [atI_nil, hp] at h; cases h
  | cons b r =>
    rw [(lenW_more p hp _ h).1]
    simp only [List.drop_one, List.tail_cons, List.take_succ_cons]
    rw [val_cons, atI_zero_cons]
def hexLen (k : Nat) (r : List UInt8) : Nat := min k (lenW isHex r)
theorem hexLen_stop (k : Nat) (r : List UInt8) (h : isHex (atI r 0) = false ∨ k = 0) : hexLen k r = 0 := by
  unfold hexLen
  rcases h with h | h
  · rw [lenW_stop _ _ h]; simp
  · simp [h]
theorem hexLen_more (k : Nat) (r : List UInt8) (h : isHex (atI r 0) = true) : hexLen (k + 1) r = hexLen k (r.drop 1) + 1 := by
  unfold hexLen
  rw [(lenW_more _ isHex_zero _ h).1]
  omega
theorem hexTake_more (k : Nat) (r : List UInt8) (h : isHex (atI r 0) = true) (n : Int) :
    val 16 n (r.take (hexLen (k + 1) r)) = val 16 (16 * n + digI (atI r 0)) ((r.drop 1).take (hexLen k (r.drop 1))) := by
  rw [hexLen_more k r h]
  cases r with
  | nil => rw [atI_nil, isHex_zero] at h; cases h
  | cons b r => simp only [List.drop_one, List.tail_cons, List.take_succ_cons, val_cons, atI_zero_cons]
def numAt (r : List UInt8) : Option (Int × Nat) :=
  if atI r 0 = 39 then (if isQuo (atI r 1) = true ∧ atI r 2 = 39 then some (atI r 1, 3) else none)
  else if atI r 0 = 48 ∧ atI r 1 = 120 then
    (if hexLen 8 (r.drop 2) = 0 ∨ inW (atI r (2 + hexLen 8 (r.drop 2))) = true then none else some (val 16 0 ((r.drop 2).take (hexLen 8 (r.drop 2))), 2 + hexLen 8 (r.drop 2)))
  else if atI r 0 = 48 then (if inW (atI r 1) = true then none else some (0, 1))
  else (if 4294967295 < val 10 0 (r.take (lenW isDig r)) ∨ inW (atI r (lenW isDig r)) = true then none else some (val 10 0 (r.take (lenW isDig r)), lenW isDig r))
def numN (r : List UInt8) : Int := match numAt r with | some (n, _) => n | none => 0
def numL (r : List UInt8) : Nat := match numAt r with | some (_, k) => k | none => 0
theorem hex_step (i : Nat) (n d : Int) (hi : i < 8) (n0 : 0 ≤ n) (n1 : n < 16 ^ i) (d0 : 0 ≤ d) (d1 : d ≤ 15) : 0 ≤ 16 * n + d ∧ 16 * n + d < 16 ^ (i + 1) ∧ 16 * n + d ≤ 4294967295 := by
  have : i = 0 ∨ i = 1 ∨ i = 2 ∨ i = 3 ∨ i = 4 ∨ i = 5 ∨ i = 6 ∨ i = 7 := by omega
  rcases this with rfl | rfl | rfl | rfl | rfl | rfl | rfl | rfl <;> simp at n1 ⊢ <;> omega
theorem hex_small (i : Nat) (n : Int) (hi : i ≤ 8) (n1 : n < 16 ^ i) : n ≤ 4294967295 := by
  have : i = 0 ∨ i = 1 ∨ i = 2 ∨ i = 3 ∨ i = 4 ∨ i = 5 ∨ i = 6 ∨ i = 7 ∨ i = 8 := by omega
  rcases this with rfl | rfl | rfl | rfl | rfl | rfl | rfl | rfl | rfl <;> simp at n1 ⊢ <;> omega
def Res (N T : Int) (at_ : Nat) (bad : Prop) (v : Int) (k : Nat) : Prop := (bad → N = 0 ∧ T = (at_ : Int)) ∧ (¬ bad → N = v ∧ T = (k : Int))
theorem Res.bad {N T : Int} {at_ : Nat} {bad : Prop} {v : Int} {k : Nat} (h : Res N T at_ bad v k) (hb : bad) : N = 0 ∧ T = (at_ : Int) := h.1 hb
theorem Res.good {N T : Int} {at_ : Nat} {bad : Prop} {v : Int} {k : Nat} (h : Res N T at_ bad v k) (hb : ¬ bad) : N = v ∧ T = (k : Int) := h.2 hb
theorem Res.turn {N T : Int} {at_ : Nat} {bad bad' : Prop} {v v' : Int} {k k' : Nat} (h : Res N T at_ bad v k) (hb : bad' ↔ bad) (hv : v' = v) (hk : k' = k) : Res N T at_ bad' v' k' := by
  subst hv hk
  exact ⟨fun x => h.1 (hb.1 x), fun x => h.2 fun y => x (hb.2 y)⟩
structure Tok where
  kind : Int
  text : List UInt8
  num : Int
  place : Nat
def tokAt (r : List UInt8) : Option (Int × Int × Nat) :=
  if isLet (atI r 0) = true then (if lenW inW r ≤ 32 then some (1, 0, lenW inW r) else none)
  else if isDig (atI r 0) = true ∨ atI r 0 = 39 then
    (if numL r = 0 then none else some (2, numN r, numL r))
  else if isSg (atI r 0) = true then some (3, 0, 1)
  else none
def scan (r : List UInt8) (at_ : Nat) : Except Nat (List Tok) :=
  match r with
  | [] => .ok []
  | b :: r' =>
    if (b.toNat : Int) = 59 then .ok []
    else if isBl (b.toNat : Int) = true then scan r' (at_ + 1)
    else match tokAt (b :: r') with
      | none => .error at_
      | some (kind, n, k) =>
        match scan (r'.drop (k - 1)) (at_ + k) with
        | .ok ts => .ok ({ kind := kind, text := (b :: r').take k, num := n, place := at_ } :: ts)
        | .error p => .error p
  termination_by r.length
  decreasing_by all_goals simp; try omega
end Go.Proofs.YtogkchgjpflmjaaGreatDoor
/- The scan of a text, place by place. -/
namespace Go.Proofs.YtogkchgjpflmjaaGreatDoor
set_option linter.unusedVariables false
set_option maxRecDepth 100000
theorem inW_of_let (c : Int) (h : isLet c = true) : inW c = true := by simp [inW, h]
theorem atI_pos (r : List UInt8) (k : Nat) (h : atI r k ≠ 0) : k < r.length := by
  apply Decidable.byContradiction
  intro hn
  exact h (atI_out r k (by omega))
theorem numL_le (r : List UInt8) : numL r ≤ r.length := by
  unfold numL
  split
  · rename_i n k h
    unfold numAt at h
    by_cases h1 : atI r 0 = 39
    · rw [if_pos h1] at h
      by_cases h2 : isQuo (atI r 1) = true ∧ atI r 2 = 39
      · rw [if_pos h2] at h
        have := atI_pos r 2 (by omega)
        simp at h
        omega
      · rw [if_neg h2] at h; cases h
    · rw [if_neg h1] at h
      by_cases h2 : atI r 0 = 48 ∧ atI r 1 = 120
      · rw [if_pos h2] at h
        have hl := atI_pos r 1 (by omega)
        have hx : hexLen 8 (r.drop 2) ≤ (r.drop 2).length := Nat.le_trans (Nat.min_le_right _ _) (lenW_le _ _)
        rw [List.length_drop] at hx
        split at h
        · cases h
        · simp at h; omega
      · rw [if_neg h2] at h
        by_cases h3 : atI r 0 = 48
        · rw [if_pos h3] at h
          have := atI_pos r 0 (by omega)
          split at h
          · cases h
          · simp at h; omega
        · rw [if_neg h3] at h
          have := lenW_le isDig r
          split at h
          · cases h
          · simp at h; omega
  · exact Nat.zero_le _
theorem tokAt_some (r : List UInt8) (kind n : Int) (k : Nat) (h : tokAt r = some (kind, n, k)) : 1 ≤ k ∧ k ≤ r.length := by
  unfold tokAt at h
  by_cases h1 : isLet (atI r 0) = true
  · rw [if_pos h1] at h
    have hm := lenW_more inW inW_zero r (inW_of_let _ h1)
    have hle := lenW_le inW r
    split at h
    · simp at h; omega
    · cases h
  · rw [if_neg h1] at h
    by_cases h2 : isDig (atI r 0) = true ∨ atI r 0 = 39
    · rw [if_pos h2] at h
      have := numL_le r
      split at h
      · cases h
      · simp at h; omega
    · rw [if_neg h2] at h
      split at h
      · rename_i h3
        have := atI_pos r 0 (by intro h0; rw [h0] at h3; revert h3; decide)
        simp at h; omega
      · cases h
def ext (acc : List Tok) : Except Nat (List Tok) → Except Nat (List Tok)
  | .ok ts => .ok (acc ++ ts)
  | .error p => .error p
theorem ext_nil (x : Except Nat (List Tok)) : ext [] x = x := by cases x <;> rfl
theorem drop_head (l : List UInt8) (a : Nat) (h : a < l.length) : ∃ b, l.drop a = b :: l.drop (a + 1) ∧ (b.toNat : Int) = atI l a := by
  refine ⟨l[a], List.drop_eq_getElem_cons h, ?_⟩
  unfold atI
  rw [List.getD_eq_getElem?_getD, List.getElem?_eq_getElem h]
  rfl
theorem scan_end (l : List UInt8) (a : Nat) (h : l.length ≤ a) : scan (l.drop a) a = .ok [] := by
  rw [List.drop_of_length_le h]
  unfold scan
  rfl
theorem scan_remark (l : List UInt8) (a : Nat) (h : a < l.length) (hc : atI l a = 59) : scan (l.drop a) a = .ok [] := by
  obtain ⟨b, hb, hv⟩ := drop_head l a h
  rw [hb, scan, if_pos (by rw [hv]; exact hc)]
theorem scan_blank (l : List UInt8) (a : Nat) (h : a < l.length) (hc : isBl (atI l a) = true) : scan (l.drop a) a = scan (l.drop (a + 1)) (a + 1) := by
  obtain ⟨b, hb, hv⟩ := drop_head l a h
  rw [hb, scan, if_neg (by rw [hv]; intro h'; rw [h'] at hc; revert hc; decide), if_pos (by rw [hv]; exact hc)]
theorem scan_wrong (l : List UInt8) (a : Nat) (h : a < l.length) (h59 : atI l a ≠ 59) (hc : isBl (atI l a) = false) (ht : tokAt (l.drop a) = none) : scan (l.drop a) a = .error a := by
  obtain ⟨b, hb, hv⟩ := drop_head l a h
  rw [hb] at ht
  rw [hb, scan, if_neg (by rw [hv]; exact h59), if_neg (by rw [hv, hc]; simp), ht]
theorem scan_tok (l : List UInt8) (a : Nat) (h : a < l.length) (h59 : atI l a ≠ 59) (hc : isBl (atI l a) = false) (kind n : Int) (k : Nat) (ht : tokAt (l.drop a) = some (kind, n, k)) :
    scan (l.drop a) a = ext [{ kind := kind, text := (l.drop a).take k, num := n, place := a }] (scan (l.drop (a + k)) (a + k)) := by
  have hk := (tokAt_some _ _ _ _ ht).1
  obtain ⟨b, hb, hv⟩ := drop_head l a h
  rw [hb] at ht
  rw [hb, scan, if_neg (by rw [hv]; exact h59), if_neg (by rw [hv, hc]; simp), ht]
  simp only
  rw [List.drop_drop, show a + 1 + (k - 1) = a + k by omega]
  cases scan (l.drop (a + k)) (a + k) <;> rfl
theorem ext_ext (acc : List Tok) (t : Tok) (x : Except Nat (List Tok)) : ext acc (ext [t] x) = ext (acc ++ [t]) x := by cases x <;> simp [ext]
theorem scan_len (r : List UInt8) (a : Nat) (ts : List Tok) (h : scan r a = .ok ts) : ts.length ≤ r.length := by
  induction hn : r.length using Nat.strongRecOn generalizing r a ts with
  | _ n ih =>
    subst hn
    cases r with
    | nil => unfold scan at h; cases h; simp
    | cons b r =>
      unfold scan at h
      split at h
      · cases h; simp
      · split at h
        · have := ih r.length (by simp) r _ ts h rfl
          simp; omega
        · split at h
          · cases h
          · split at h
            · rename_i kind n k heq1 _ us heq2
              have hk := tokAt_some _ _ _ _ heq1
              have := ih (r.drop (k - 1)).length (by simp; omega) _ _ us heq2 rfl
              simp only [List.length_drop] at this
              cases h
              simp
              omega
            · cases h
end Go.Proofs.YtogkchgjpflmjaaGreatDoor
/- strings.Clone: the same bytes, in new memory. -/
namespace Go.Proofs.YtogkchgjpflmjaaGreatDoor
open Go.ChangeShapes Go.WideShapes Go.ChangeAt Go.RowKit
set_option linter.unusedVariables false
theorem Tryz.info5 : (Tryz.prog.info? 5).map (fun i => (i.zero, i.size, i.bytes)) = some (some (.int .u8 0), 1, 1) := by kernel_rfl
set_option maxHeartbeats 4000000 in
set_option maxRecDepth 100000 in
theorem liteClone_any (s : ByteArray) (w : World) (hlim : s.size ≤ 281474976710656) :
    Calls Tryz.prog 77 #[.string s] w fun e w' => e = .returned (.string s) ∧ Below w.heap.size w w' := by
  by_cases h0 : s.size = 0
  · have hs : s = ⟨#[]⟩ := by
      apply ByteArray.ext
      exact Array.eq_empty_of_size_eq_zero h0
    subst hs
    go_enter Tryz.func77, Tryz.ntmps77
    go_wp2
    go_ret
    exact ⟨rfl, Below.refl _ _⟩
  · obtain ⟨i0, hi, hz0, hz1, hz2⟩ := info_parts Tryz.info5
    have hinfo : (Tryz.prog.info? 5).map (·.size) = some 1 := by rw [hi]; simp [hz1]
    have hco : Tryz.prog.cellsOf 5 = 1 := by simp [Program.cellsOf, hi, hz1]
    obtain ⟨M, hM⟩ : ∃ M, M = madeCells (Value.int .u8 0).cells (((s.size : Nat) : Int).toNat * i0.size) := ⟨_, rfl⟩
    have hMs : M.size = s.size := by rw [hM, size_madeCells, hz1]; simp
    have hmk : ∀ W : World, (Instr.makeSlice 33 (.int .i64 (s.size : Int)) (.int .i64 (s.size : Int))).run Tryz.prog W = .ok (.slice (some ⟨W.heap.size, 0, none⟩) s.size s.size) (W.alloc (.cells M 5)) := fun W => by
      have h := run_make (P := Tryz.prog) W 33 5 i0 (.int .u8 0) Tryz.underlying33 hi hz0 .i64 .i64 (s.size : Int) (s.size : Int) (by omega) (by omega) (by rw [hz2]; omega) (by omega)
      rw [← hM] at h
      simpa using h
    clear hM
    have hcp := Lib.run_copy_row_string (P := Tryz.prog) (w.alloc (.cells M 5)) 33 9 3 5 w.heap.size 0 s.size s.size s M 5 Tryz.underlying33 hinfo (heap_alloc_new w _) (Nat.le_refl _) (by omega)
    obtain ⟨Y, hY⟩ : ∃ Y, Y = (M.toList.take 0 ++ Lib.byteCells s.data.toList ++ M.toList.drop (0 + s.size)).toArray := ⟨_, rfl⟩
    rw [← hY] at hcp
    have hYl : Y.toList = Lib.byteCells s.data.toList := by
      rw [hY, List.toList_toArray, List.take_zero, List.nil_append, List.drop_of_length_le (by rw [Array.length_toList]; omega), List.append_nil]
    have hYs : Y.size = s.size := by rw [← Array.length_toList, hYl, Lib.byteCells_length, ← Lib.size_eq]
    have hgY : ((w.alloc (.cells M 5)).setRow w.heap.size Y).heap[w.heap.size]? = some (.cells Y 5 (0, 0)) := setRow_heap _ _ M _ 5 (0, 0) (heap_alloc_new w _)
    have hne : s.data.toList ≠ [] := fun e => h0 (by rw [Lib.size_eq, e]; rfl)
    have hUS := Lib.run_unsafeString_row (P := Tryz.prog) ((w.alloc (.cells M 5)).setRow w.heap.size Y) 200 3 9 5 Tryz.underlying200 hco w.heap.size Y.size (by unfold World.shape?; rw [hgY]) s.data.toList hne (by rw [← Lib.size_eq]; omega) (by rw [← Lib.size_eq]; omega)
      (fun j x hx => Lib.cells_of_row hgY Y.size j _ (by rw [List.take_of_length_le (by rw [Array.length_toList]; exact Nat.le_refl _), hYl]; simp [Lib.byteCells, hx]))
    rw [← Lib.size_eq] at hUS
    clear hY
    go_enter Tryz.func77, Tryz.ntmps77
    go_wp2
    go_ret
    have hb1 : Below w.heap.size w (w.alloc (.cells M 5)) := (Below.refl _ w).alloc (Nat.le_refl _) _
    have hb2 : Below w.heap.size (w.alloc (.cells M 5)) ((w.alloc (.cells M 5)).setRow w.heap.size Y) := ⟨rfl, rfl, rfl, by simp, fun k hk => setRow_other _ _ _ _ (by omega)⟩
    exact ⟨rfl, Lib.below_freeze (hb1.trans hb2) (p := ⟨w.heap.size, 0, none⟩) (Nat.le_refl _) _⟩
theorem clone_any (s : ByteArray) (w : World) (hlim : s.size ≤ 281474976710656) :
    Calls Tryz.prog 39 #[.string s] w fun e w' => e = .returned (.string s) ∧ Below w.heap.size w w' := by
  go_enter Tryz.func39, Tryz.ntmps39
  go_wp2_with (go_at_call 77; refine (liteClone_any _ _ hlim).mono ?_; rintro e w' ⟨rfl, hb⟩)
  go_ret
  exact ⟨rfl, hb⟩
end Go.Proofs.YtogkchgjpflmjaaGreatDoor
namespace Go.Proofs.YtogkchgjpflmjaaGreatDoor
open Go.ChangeShapes Go.WideShapes Go.ChangeAt Go.RowKit
set_option linter.unusedVariables false
set_option maxRecDepth 100000
theorem Hid.intro {p : Prop} (h : p) : Hid p := h
def Q28 (N T : Int) (w : World) : Exit → Act → World → Prop := bodyPost Tryz.prog Tryz.f129 fun e w' => e = .returned (.tuple #[.int .u32 N, .int .i64 T]) ∧ w' = w
theorem byteAt_int (s : ByteArray) (z : Int) (h0 : 0 ≤ z) (hk : z ≤ 4611686018427387904) (hs : s.size ≤ 4611686018427387904) (w : World) :
    Calls Tryz.prog 123 #[.string s, .int .i64 z] w fun e w' => e = .returned (.int .u8 (atI (bs s) z.toNat)) ∧ w' = w := by
  obtain ⟨k, rfl⟩ := Int.eq_ofNat_of_zero_le h0
  exact byteAt_any s k (by omega) hs w
theorem none_lands (s : ByteArray) (at_ : Nat) (N T : Int) (w : World) (hN : N = 0) (hT : T = at_) {u2 u3 u4 u5 u6 u7 u8 u9 u10 u11 u12 u13 u14 u15 u16 u17 u18 u19 u20 u21 u22 u23 u24 u25 u26 u27 u28 u29 u30 u31 u32 u33 u34 u35 u36 u37 u38 u39 u40 u41 u42 u43 u44 u45 u46 u47 u48 u49 u50 u51 u52 u53 u54 u55 u56 u57 u58 u59 u60 u61 u62 u63 u64 u65 u66 u67 u68 u69 u70 u71 u72 u73 u74 u75 u76 u77 u78 u79 u80 u81 u82 u83 u84 u85 u86 u87 u88 u89 u90 u91 u92 u93 u94 u95 u96 u97 u98 u99 : Value} :
    Lands Tryz.prog (scopeOf Tryz.f129) (Q28 N T w) 3 { tmps := List.toArray (.string s :: .int .i64 (at_ : Int) :: u2 :: u3 :: u4 :: u5 :: u6 :: u7 :: u8 :: u9 :: u10 :: u11 :: u12 :: u13 :: u14 :: u15 :: u16 :: u17 :: u18 :: u19 :: u20 :: u21 :: u22 :: u23 :: u24 :: u25 :: u26 :: u27 :: u28 :: u29 :: u30 :: u31 :: u32 :: u33 :: u34 :: u35 :: u36 :: u37 :: u38 :: u39 :: u40 :: u41 :: u42 :: u43 :: u44 :: u45 :: u46 :: u47 :: u48 :: u49 :: u50 :: u51 :: u52 :: u53 :: u54 :: u55 :: u56 :: u57 :: u58 :: u59 :: u60 :: u61 :: u62 :: u63 :: u64 :: u65 :: u66 :: u67 :: u68 :: u69 :: u70 :: u71 :: u72 :: u73 :: u74 :: u75 :: u76 :: u77 :: u78 :: u79 :: u80 :: u81 :: u82 :: u83 :: u84 :: u85 :: u86 :: u87 :: u88 :: u89 :: u90 :: u91 :: u92 :: u93 :: u94 :: u95 :: u96 :: u97 :: u98 :: u99 :: []), defers := [] } w := by
  subst hN hT
  refine Lands.of rfl ?_
  go_wp2
  rw [jumps_ret]
  unfold Q28
  go_ret2
  exact ⟨rfl, rfl⟩
theorem behind_lands (s : ByteArray) (at_ k : Nat) (n to_ N T : Int) (w : World) (hk : to_ = k) (ht : to_ ≤ 4611686018427387904) (hs : s.size ≤ 4611686018427387904) (n0 : 0 ≤ n) (n1 : n ≤ 4294967295)
    (hR : Res N T at_ (inW (atI (bs s) k) = true) n k) {u2 u3 u4 u5 u8 u9 u10 u11 u12 u13 u14 u15 u16 u17 u18 u19 u20 u21 u22 u23 u24 u25 u26 u27 u28 u29 u30 u31 u32 u33 u34 u35 u36 u37 u38 u39 u40 u41 u42 u43 u44 u45 u46 u47 u48 u49 u50 u51 u52 u53 u54 u55 u56 u57 u58 u59 u60 u61 u62 u63 u64 u65 u66 u67 u68 u69 u70 u71 u72 u73 u74 u75 u76 u77 u78 u79 u80 u81 u82 u83 u84 u85 u86 u87 u88 u89 u90 u91 u92 u93 u94 u95 u96 u97 u98 u99 : Value} :
    Lands Tryz.prog (scopeOf Tryz.f129) (Q28 N T w) 2 { tmps := List.toArray (.string s :: .int .i64 (at_ : Int) :: u2 :: u3 :: u4 :: u5 :: .int .u64 n :: .int .i64 to_ :: u8 :: u9 :: u10 :: u11 :: u12 :: u13 :: u14 :: u15 :: u16 :: u17 :: u18 :: u19 :: u20 :: u21 :: u22 :: u23 :: u24 :: u25 :: u26 :: u27 :: u28 :: u29 :: u30 :: u31 :: u32 :: u33 :: u34 :: u35 :: u36 :: u37 :: u38 :: u39 :: u40 :: u41 :: u42 :: u43 :: u44 :: u45 :: u46 :: u47 :: u48 :: u49 :: u50 :: u51 :: u52 :: u53 :: u54 :: u55 :: u56 :: u57 :: u58 :: u59 :: u60 :: u61 :: u62 :: u63 :: u64 :: u65 :: u66 :: u67 :: u68 :: u69 :: u70 :: u71 :: u72 :: u73 :: u74 :: u75 :: u76 :: u77 :: u78 :: u79 :: u80 :: u81 :: u82 :: u83 :: u84 :: u85 :: u86 :: u87 :: u88 :: u89 :: u90 :: u91 :: u92 :: u93 :: u94 :: u95 :: u96 :: u97 :: u98 :: u99 :: []), defers := [] } w := by
  have htn : to_.toNat = k := by omega
  have ht0 : 0 ≤ to_ := by omega
  rw [← htn] at hR
  cases hin : inW (atI (bs s) to_.toNat)
  · obtain ⟨hN, hT0⟩ := hR.good (by rw [hin]; simp)
    have hT : T = to_ := by omega
    clear hR htn hk hT0
    subst hN hT
    refine Lands.of rfl ?_
    go_wp2_with (first
      | (go_at_call 123; refine (byteAt_int _ _ (by omega) (by omega) (by assumption) _).mono ?_; rintro e w' ⟨rfl, rfl⟩)
      | (go_at_call 128; refine (inWord_any _ _).mono ?_; rintro e w' ⟨rfl, rfl⟩)
      | (go_at_call 126; refine (isDigit_any _ _).mono ?_; rintro e w' ⟨rfl, rfl⟩)
      | (go_at_call 158; refine (isHexDigit_any _ _).mono ?_; rintro e w' ⟨rfl, rfl⟩)
      | (go_at_call 159; refine (isQuotable_any _ _).mono ?_; rintro e w' ⟨rfl, rfl⟩)
      | (go_at_call 131; refine (digit_any _ (by assumption) _).mono ?_; rintro e w' ⟨rfl, rfl⟩))
    rw [jumps_ret]
    unfold Q28
    go_ret2
    exact ⟨rfl, rfl⟩
  · obtain ⟨hN, hT⟩ := hR.bad hin
    clear hR htn hk
    refine Lands.of rfl ?_
    go_wp2_with (first
      | (go_at_call 123; refine (byteAt_int _ _ (by omega) (by omega) (by assumption) _).mono ?_; rintro e w' ⟨rfl, rfl⟩)
      | (go_at_call 128; refine (inWord_any _ _).mono ?_; rintro e w' ⟨rfl, rfl⟩)
      | (go_at_call 126; refine (isDigit_any _ _).mono ?_; rintro e w' ⟨rfl, rfl⟩)
      | (go_at_call 158; refine (isHexDigit_any _ _).mono ?_; rintro e w' ⟨rfl, rfl⟩)
      | (go_at_call 159; refine (isQuotable_any _ _).mono ?_; rintro e w' ⟨rfl, rfl⟩)
      | (go_at_call 131; refine (digit_any _ (by assumption) _).mono ?_; rintro e w' ⟨rfl, rfl⟩))
    go_step3
    exact none_lands s at_ _ _ _ hN hT
theorem dec_lands (s : ByteArray) (at_ : Nat) (N T : Int) (w : World) (hs : s.size ≤ 4611686018427387800) :
    ∀ (m k : Nat) (to_ n : Int), to_ = k → k ≤ s.size → lenW isDig ((bs s).drop k) = m → 0 ≤ n → n ≤ 4294967295 →
    Res N T at_ (4294967295 < val 10 n (((bs s).drop k).take m) ∨ inW (atI (bs s) (k + m)) = true) (val 10 n (((bs s).drop k).take m)) (k + m) →
    ∀ {u2 u3 u4 u5 u8 u9 u10 u11 u12 u13 u14 u15 u16 u17 u18 u19 u20 u21 u22 u23 u24 u25 u26 u27 u28 u29 u30 u31 u32 u33 u34 u35 u36 u37 u38 u39 u40 u41 u42 u43 u44 u45 u46 u47 u48 u49 u50 u51 u52 u53 u54 u55 u56 u57 u58 u59 u60 u61 u62 u63 u64 u65 u66 u67 u68 u69 u70 u71 u72 u73 u74 u75 u76 u77 u78 u79 u80 u81 u82 u83 u84 u85 u86 u87 u88 u89 u90 u91 u92 u93 u94 u95 u96 u97 u98 u99 : Value}, Lands Tryz.prog (scopeOf Tryz.f129) (Q28 N T w) 4 { tmps := List.toArray (.string s :: .int .i64 (at_ : Int) :: u2 :: u3 :: u4 :: u5 :: .int .u64 n :: .int .i64 to_ :: u8 :: u9 :: u10 :: u11 :: u12 :: u13 :: u14 :: u15 :: u16 :: u17 :: u18 :: u19 :: u20 :: u21 :: u22 :: u23 :: u24 :: u25 :: u26 :: u27 :: u28 :: u29 :: u30 :: u31 :: u32 :: u33 :: u34 :: u35 :: u36 :: u37 :: u38 :: u39 :: u40 :: u41 :: u42 :: u43 :: u44 :: u45 :: u46 :: u47 :: u48 :: u49 :: u50 :: u51 :: u52 :: u53 :: u54 :: u55 :: u56 :: u57 :: u58 :: u59 :: u60 :: u61 :: u62 :: u63 :: u64 :: u65 :: u66 :: u67 :: u68 :: u69 :: u70 :: u71 :: u72 :: u73 :: u74 :: u75 :: u76 :: u77 :: u78 :: u79 :: u80 :: u81 :: u82 :: u83 :: u84 :: u85 :: u86 :: u87 :: u88 :: u89 :: u90 :: u91 :: u92 :: u93 :: u94 :: u95 :: u96 :: u97 :: u98 :: u99 :: []), defers := [] } w := by
  intro m
  induction m with
  | zero =>
    intro k to_ n hk hks hm n0 n1 hR
    intros
    have ht : to_.toNat = k := by omega
    have hd : isDig (atI (bs s) to_.toNat) = false := by
      cases h : isDig (atI (bs s) to_.toNat)
      · rfl
      · rw [ht] at h
        have := (lenW_more isDig isDig_zero ((bs s).drop k) (by rw [atI_drop]; exact h)).1
        omega
    have hs2 : s.size ≤ 4611686018427387904 := by omega
    rw [List.take_zero, val_nil, Nat.add_zero] at hR
    have hR2 := Hid.intro (hR.turn (bad' := inW (atI (bs s) k) = true) ⟨fun h => Or.inr h, fun h => h.resolve_left (by omega)⟩ rfl rfl)
    have h0 : 0 ≤ to_ := by omega
    have h1 : to_ ≤ 4611686018427387850 := by omega
    have hH := Hid.intro hk
    clear hR hm ht hk
    refine Lands.of rfl ?_
    go_wp2_with (first
      | (go_at_call 123; refine (byteAt_int _ _ (by omega) (by omega) (by assumption) _).mono ?_; rintro e w' ⟨rfl, rfl⟩)
      | (go_at_call 128; refine (inWord_any _ _).mono ?_; rintro e w' ⟨rfl, rfl⟩)
      | (go_at_call 126; refine (isDigit_any _ _).mono ?_; rintro e w' ⟨rfl, rfl⟩)
      | (go_at_call 158; refine (isHexDigit_any _ _).mono ?_; rintro e w' ⟨rfl, rfl⟩)
      | (go_at_call 159; refine (isQuotable_any _ _).mono ?_; rintro e w' ⟨rfl, rfl⟩)
      | (go_at_call 131; refine (digit_any _ (by assumption) _).mono ?_; rintro e w' ⟨rfl, rfl⟩))
    go_step3
    exact behind_lands s at_ k n to_ N T _ hH.out (by omega) hs2 n0 n1 hR2.out
  | succ m ih =>
    intro k to_ n hk hks hm n0 n1 hR
    intros
    have ht : to_.toNat = k := by omega
    have hd : isDig (atI (bs s) to_.toNat) = true := by
      cases h : isDig (atI (bs s) to_.toNat)
      · rw [ht] at h
        have := lenW_stop isDig ((bs s).drop k) (by rw [atI_drop]; exact h)
        omega
      · rfl
    have hx := isHex_of_dig _ hd
    obtain ⟨d0, d1⟩ := digI_dig _ hd
    have hhead : isDig (atI ((bs s).drop k) 0) = true := by rw [atI_drop]; rw [ht] at hd; exact hd
    obtain ⟨hl1, hl2⟩ := lenW_more isDig isDig_zero ((bs s).drop k) hhead
    rw [List.drop_drop] at hl1
    rw [List.length_drop, bs_length] at hl2
    have hm' : lenW isDig ((bs s).drop (k + 1)) = m := by omega
    have hv := take_more isDig isDig_zero ((bs s).drop k) hhead 10 n
    rw [hm, List.drop_drop, hm', atI_drop] at hv
    simp only [Nat.add_zero] at hv
    rw [hv, show k + (m + 1) = k + 1 + m by omega] at hR
    have hs2 : s.size ≤ 4611686018427387904 := by omega
    have h0 : 0 ≤ to_ := by omega
    have h1 : to_ ≤ 4611686018427387850 := by omega
    have hge := val_ge (10 * n + digI (atI (bs s) k)) (((bs s).drop (k + 1)).take m) (by rw [ht] at d0; omega) (by rw [← hm']; exact take_all _ _)
    obtain ⟨c, hc⟩ : ∃ c, c = atI (bs s) k := ⟨_, rfl⟩
    rw [ht, ← hc] at hd hx d0 d1
    rw [← hc] at hR hge
    have hH := Hid.intro hk
    have hH2 := Hid.intro hR
    have hH3 := Hid.intro hge
    have hc' : atI (bs s) to_.toNat = c := by rw [ht, hc]
    clear hR hm ht hk hge hl1 hhead hv hc
    refine Lands.of rfl ?_
    go_wp2_with (first
      | (go_at_call 123; refine (byteAt_int _ _ (by omega) (by omega) (by assumption) _).mono ?_; rintro e w' ⟨rfl, rfl⟩)
      | (go_at_call 128; refine (inWord_any _ _).mono ?_; rintro e w' ⟨rfl, rfl⟩)
      | (go_at_call 126; refine (isDigit_any _ _).mono ?_; rintro e w' ⟨rfl, rfl⟩)
      | (go_at_call 158; refine (isHexDigit_any _ _).mono ?_; rintro e w' ⟨rfl, rfl⟩)
      | (go_at_call 159; refine (isQuotable_any _ _).mono ?_; rintro e w' ⟨rfl, rfl⟩)
      | (go_at_call 131; refine (digit_any _ (by assumption) _).mono ?_; rintro e w' ⟨rfl, rfl⟩))
    · go_step3
      have hge := hH3.out
      obtain ⟨hN, hT⟩ := hH2.out.bad (Or.inl (by omega))
      exact none_lands s at_ _ _ _ hN hT
    · go_step3
      have hk := hH.out
      exact ih (k + 1) _ _ (by omega) (by omega) hm' (by omega) (by omega) hH2.out
end Go.Proofs.YtogkchgjpflmjaaGreatDoor
