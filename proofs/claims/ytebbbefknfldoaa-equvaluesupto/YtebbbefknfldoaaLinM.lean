/- Lins as lists of terms: their coefficients, the one list that has given coefficients, sums and products. -/
import Derived.Test.YtebbbefknfldoaaRows
import Derived.WalkKit
import Derived.ProofKit
import Derived.OpenShut
import Derived.ShutString
import Derived.ChangeOld
import Derived.Below
import Derived.WalkMore
import Derived.ScopeJumps
import Derived.Lib.Bytealg
import Derived.Lib.IndexAny
import Derived.Lib.Strings
import Derived.Lib.Walk
import Derived.Lib.BufferWrite
import Derived.Lib.UnsafeStr
import Derived.Lib.Hide
import Derived.Laws.MakeOwn
import Derived.Deep.DeepAppendWide
import Derived.Deep.DeepMust
import Derived.Laws.Strings3
/- A scope whose run jumps among many labels: what it is to go on from a label ('Lands'), one law a jump, one for the scope; proofs by plain induction. -/
namespace Go.Proofs.Ytebbbefknfldoaa
open Go.ChangeShapes Go.WideShapes Go.ChangeAt Go.RowKit
set_option linter.unusedVariables false
set_option maxRecDepth 100000
def Lands (P : Program) (c : Code) (Q : Exit → Act → World → Prop) (l : Nat) (a : Act) (w : World) : Prop :=
  ∃ rest, findLabel c l = some rest ∧ ∀ (b : Frame) (k : List Item) (cs : List Frame),
    ∃ e a' w', Q e a' w' ∧ Arrives P (lone (b.at a (.code rest :: .inScope c :: k)) cs w) b k cs e a' w'
def jumps (J : Nat → Act → World → Prop) (Q : Exit → Act → World → Prop) : Exit → Act → World → Prop
  | .goto l, a, w => J l a w
  | e, a, w => Q e a w
section
variable {P : Program} {Q : Exit → Act → World → Prop} {a : Act} {w : World} {J : Nat → Act → World → Prop}
theorem arrives_scope {c rest : Code} (h : rest.wp P (jumps (Lands P c Q) Q) a w) (b : Frame) (k : List Item) (cs : List Frame) :
    ∃ e a' w', Q e a' w' ∧ Arrives P (lone (b.at a (.code rest :: .inScope c :: k)) cs w) b k cs e a' w' := by
  obtain ⟨e, a₁, w₁, hq, harr⟩ := h b (.inScope c :: k) cs
  cases e with
  | normal => exact ⟨.normal, a₁, w₁, hq, Steps.trans harr (.one step_inScope)⟩
  | exit id => exact ⟨.exit id, a₁, w₁, hq, fun k' hk => harr k' (by simp [exitTo, hk])⟩
  | goto l =>
    obtain ⟨rest', hf, hrest⟩ := hq
    obtain ⟨e₂, a₂, w₂, hq₂, harr₂⟩ := hrest b k cs
    have hg : gotoIn l (.inScope c :: k) = some (.code rest' :: .inScope c :: k) := by simp [gotoIn, hf]
    exact ⟨e₂, a₂, w₂, hq₂, .of_steps (harr _ hg) harr₂⟩
  | ret => exact ⟨_, a₁, w₁, hq, harr⟩
  | panic ch => exact ⟨_, a₁, w₁, hq, harr⟩
  | outgrown => exact ⟨_, a₁, w₁, hq, harr⟩
theorem Lands.of {c rest : Code} {l : Nat} (hf : findLabel c l = some rest) (h : rest.wp P (jumps (Lands P c Q) Q) a w) : Lands P c Q l a w :=
  ⟨rest, hf, fun b k cs => arrives_scope h b k cs⟩
end
end Go.Proofs.Ytebbbefknfldoaa
/- Contracts of lex's small functions that only compute, and of the document's: kinds of bytes, a digit's number, the byte at a place. -/
namespace Go.Proofs.Ytebbbefknfldoaa
open Go.ChangeShapes Go.WideShapes Go.ChangeAt Go.RowKit
set_option linter.unusedVariables false
set_option maxRecDepth 100000
def isBl (c : Int) : Bool := c == 9 || c == 13 || c == 32
def isLet (c : Int) : Bool := decide (97 ≤ c ∧ c ≤ 122) || decide (65 ≤ c ∧ c ≤ 90) || c == 95
def isDig (c : Int) : Bool := decide (48 ≤ c ∧ c ≤ 57)
def inW (c : Int) : Bool := isLet c || isDig c
def isHex (c : Int) : Bool := isDig c || decide (97 ≤ c ∧ c ≤ 102)
def isQuo (c : Int) : Bool := decide (32 ≤ c ∧ c ≤ 126) && c != 39
def isSg (c : Int) : Bool := c == 58 || c == 44 || c == 40 || c == 41 || c == 43 || c == 45 || c == 42 || c == 61
def digI (c : Int) : Int := if 48 ≤ c ∧ c ≤ 57 then c - 48 else c - 97 + 10
def bs (s : ByteArray) : List UInt8 := s.data.toList
def atI (l : List UInt8) (k : Nat) : Int := ((l.getD k 0).toNat : Int)
theorem bs_length (s : ByteArray) : (bs s).length = s.size := (Lib.size_eq s).symm
theorem atI_lo (l : List UInt8) (k : Nat) : 0 ≤ atI l k := by unfold atI; omega
theorem atI_hi (l : List UInt8) (k : Nat) : atI l k ≤ 255 := by
  unfold atI
  have := UInt8.toNat_lt (l.getD k 0)
  omega
theorem atI_get (s : ByteArray) (k : Nat) (h : k < s.size) : ((s[k].toNat : Nat) : Int) = atI (bs s) k := by
  unfold atI bs
  have : s.data.toList.getD k 0 = s[k] := by
    rw [List.getD_eq_getElem?_getD]
    have h' : k < s.data.toList.length := by rw [← Lib.size_eq]; exact h
    rw [List.getElem?_eq_getElem h']
    rfl
  rw [this]
theorem ret_bool {x y : Bool} {w : World} (h : x = y) : Ending.returned (.bool x) = Ending.returned (.bool y) ∧ w = w := ⟨by rw [h], rfl⟩
theorem refLetter_any (c : Int) (w : World) :
    Calls Try.prog 50 #[.int .u8 c] w fun e w' => e = .returned (.bool (isLet c)) ∧ w' = w := by
  go_enter Try.func50, Try.ntmps50
  go_wp2
  all_goals
    go_ret
    refine ret_bool ?_
    first
      | rfl
      | (rw [Bool.eq_iff_iff]; simp [isLet]; try omega)
theorem refDigit_any (c : Int) (w : World) :
    Calls Try.prog 51 #[.int .u8 c] w fun e w' => e = .returned (.bool (isDig c)) ∧ w' = w := by
  go_enter Try.func51, Try.ntmps51
  go_wp2
  all_goals
    go_ret
    refine ret_bool ?_
    first
      | rfl
      | (rw [Bool.eq_iff_iff]; simp [isDig]; try omega)
end Go.Proofs.Ytebbbefknfldoaa
/- What a number, a token and the tokens of a text are, as functions on its bytes. -/
namespace Go.Proofs.Ytebbbefknfldoaa
set_option linter.unusedVariables false
set_option maxRecDepth 100000
def lenW (p : Int → Bool) (r : List UInt8) : Nat := (r.takeWhile fun b => p (b.toNat : Int)).length
theorem atI_zero_cons (b : UInt8) (r : List UInt8) : atI (b :: r) 0 = (b.toNat : Int) := rfl
theorem atI_succ_cons (b : UInt8) (r : List UInt8) (k : Nat) : atI (b :: r) (k + 1) = atI r k := by simp [atI]
theorem atI_nil (k : Nat) : atI [] k = 0 := by simp [atI]
theorem lenW_stop (p : Int → Bool) (r : List UInt8) (h : p (atI r 0) = false) : lenW p r = 0 := by
  cases r with
  | nil => rfl
  | cons b r => simp [lenW, List.takeWhile, atI_zero_cons] at h ⊢; simp [h]
theorem lenW_more (p : Int → Bool) (hp : p 0 = false) (r : List UInt8) (h : p (atI r 0) = true) : lenW p r = lenW p (r.drop 1) + 1 ∧ 0 < r.length := by
  cases r with
  | nil => rw [atI_nil, hp] at h; cases h
  | cons b r => simp [lenW, List.takeWhile, atI_zero_cons] at h ⊢; simp [h]
theorem lenW_le (p : Int → Bool) (r : List UInt8) : lenW p r ≤ r.length := by
  unfold lenW
  exact (List.takeWhile_sublist _).length_le
theorem lenW_end (p : Int → Bool) (hp : p 0 = false) (r : List UInt8) : p (atI r (lenW p r)) = false := by
  induction r with
  | nil => simpa [atI_nil] using hp
  | cons b r ih =>
    cases h : p (b.toNat : Int)
    · rw [lenW_stop p _ (by rw [atI_zero_cons]; exact h), atI_zero_cons]; exact h
    · have := (lenW_more p hp (b :: r) (by rw [atI_zero_cons]; exact h)).1
      rw [this, List.drop_one, List.tail_cons, atI_succ_cons]
      exact ih
theorem lenW_in (p : Int → Bool) (r : List UInt8) (k : Nat) (h : k < lenW p r) : p (atI r k) = true := by
  induction r generalizing k with
  | nil => simp [lenW] at h
  | cons b r ih =>
    cases hb : p (b.toNat : Int)
    · rw [lenW_stop p _ (by rw [atI_zero_cons]; exact hb)] at h; omega
    · cases k with
      | zero => rw [atI_zero_cons]; exact hb
      | succ k =>
        rw [atI_succ_cons]
        apply ih
        simp [lenW, List.takeWhile, hb] at h ⊢
        exact h
theorem inW_zero : inW 0 = false := rfl
def val (base : Int) (n : Int) (ds : List UInt8) : Int := ds.foldl (fun n b => base * n + digI (b.toNat : Int)) n
def hexLen (k : Nat) (r : List UInt8) : Nat := min k (lenW isHex r)
def numAt (r : List UInt8) : Option (Int × Nat) :=
  if atI r 0 = 39 then (if isQuo (atI r 1) = true ∧ atI r 2 = 39 then some (atI r 1, 3) else none)
  else if atI r 0 = 48 ∧ atI r 1 = 120 then
    (if hexLen 8 (r.drop 2) = 0 ∨ inW (atI r (2 + hexLen 8 (r.drop 2))) = true then none else some (val 16 0 ((r.drop 2).take (hexLen 8 (r.drop 2))), 2 + hexLen 8 (r.drop 2)))
  else if atI r 0 = 48 then (if inW (atI r 1) = true then none else some (0, 1))
  else (if 4294967295 < val 10 0 (r.take (lenW isDig r)) ∨ inW (atI r (lenW isDig r)) = true then none else some (val 10 0 (r.take (lenW isDig r)), lenW isDig r))
def numN (r : List UInt8) : Int := match numAt r with | some (n, _) => n | none => 0
def numL (r : List UInt8) : Nat := match numAt r with | some (_, k) => k | none => 0
def Res (N T : Int) (at_ : Nat) (bad : Prop) (v : Int) (k : Nat) : Prop := (bad → N = 0 ∧ T = (at_ : Int)) ∧ (¬ bad → N = v ∧ T = (k : Int))
theorem Res.bad {N T : Int} {at_ : Nat} {bad : Prop} {v : Int} {k : Nat} (h : Res N T at_ bad v k) (hb : bad) : N = 0 ∧ T = (at_ : Int) := h.1 hb
theorem Res.good {N T : Int} {at_ : Nat} {bad : Prop} {v : Int} {k : Nat} (h : Res N T at_ bad v k) (hb : ¬ bad) : N = v ∧ T = (k : Int) := h.2 hb
theorem Res.turn {N T : Int} {at_ : Nat} {bad bad' : Prop} {v v' : Int} {k k' : Nat} (h : Res N T at_ bad v k) (hb : bad' ↔ bad) (hv : v' = v) (hk : k' = k) : Res N T at_ bad' v' k' := by
  subst hv hk
  exact ⟨fun x => h.1 (hb.1 x), fun x => h.2 fun y => x (hb.2 y)⟩
structure Tok where
  kind : Int
  text : List UInt8
  num : Int
  place : Nat
def tokAt (r : List UInt8) : Option (Int × Int × Nat) :=
  if isLet (atI r 0) = true then (if lenW inW r ≤ 32 then some (1, 0, lenW inW r) else none)
  else if isDig (atI r 0) = true ∨ atI r 0 = 39 then
    (if numL r = 0 then none else some (2, numN r, numL r))
  else if isSg (atI r 0) = true then some (3, 0, 1)
  else none
def scan (r : List UInt8) (at_ : Nat) : Except Nat (List Tok) :=
  match r with
  | [] => .ok []
  | b :: r' =>
    if (b.toNat : Int) = 59 then .ok []
    else if isBl (b.toNat : Int) = true then scan r' (at_ + 1)
    else match tokAt (b :: r') with
      | none => .error at_
      | some (kind, n, k) =>
        match scan (r'.drop (k - 1)) (at_ + k) with
        | .ok ts => .ok ({ kind := kind, text := (b :: r').take k, num := n, place := at_ } :: ts)
        | .error p => .error p
  termination_by r.length
  decreasing_by all_goals simp; try omega
end Go.Proofs.Ytebbbefknfldoaa
/- strings.Clone: the same bytes, in new memory. -/
namespace Go.Proofs.Ytebbbefknfldoaa
open Go.ChangeShapes Go.WideShapes Go.ChangeAt Go.RowKit
set_option linter.unusedVariables false
theorem Try.info5 : (Try.prog.info? 5).map (fun i => (i.zero, i.size, i.bytes)) = some (some (.int .u8 0), 1, 1) := by kernel_rfl
set_option maxHeartbeats 4000000 in
set_option maxRecDepth 100000 in
theorem liteClone_any (s : ByteArray) (w : World) (hlim : s.size ≤ 281474976710656) :
    Calls Try.prog 45 #[.string s] w fun e w' => e = .returned (.string s) ∧ Below w.heap.size w w' := by
  by_cases h0 : s.size = 0
  · have hs : s = ⟨#[]⟩ := by
      apply ByteArray.ext
      exact Array.eq_empty_of_size_eq_zero h0
    subst hs
    go_enter Try.func45, Try.ntmps45
    go_wp2
    go_ret
    exact ⟨rfl, Below.refl _ _⟩
  · obtain ⟨i0, hi, hz0, hz1, hz2⟩ := info_parts Try.info5
    have hinfo : (Try.prog.info? 5).map (·.size) = some 1 := by rw [hi]; simp [hz1]
    have hco : Try.prog.cellsOf 5 = 1 := by simp [Program.cellsOf, hi, hz1]
    obtain ⟨M, hM⟩ : ∃ M, M = madeCells (Value.int .u8 0).cells (((s.size : Nat) : Int).toNat * i0.size) := ⟨_, rfl⟩
    have hMs : M.size = s.size := by rw [hM, size_madeCells, hz1]; simp
    have hmk : ∀ W : World, (Instr.makeSlice 102 (.int .i64 (s.size : Int)) (.int .i64 (s.size : Int))).run Try.prog W = .ok (.slice (some ⟨W.heap.size, 0, none⟩) s.size s.size) (W.alloc (.cells M 5)) := fun W => by
      have h := run_make (P := Try.prog) W 102 5 i0 (.int .u8 0) Try.underlying102 hi hz0 .i64 .i64 (s.size : Int) (s.size : Int) (by omega) (by omega) (by rw [hz2]; omega) (by omega)
      rw [← hM] at h
      simpa using h
    clear hM
    have hcp := Lib.run_copy_row_string (P := Try.prog) (w.alloc (.cells M 5)) 102 9 3 5 w.heap.size 0 s.size s.size s M 5 Try.underlying102 hinfo (heap_alloc_new w _) (Nat.le_refl _) (by omega)
    obtain ⟨Y, hY⟩ : ∃ Y, Y = (M.toList.take 0 ++ Lib.byteCells s.data.toList ++ M.toList.drop (0 + s.size)).toArray := ⟨_, rfl⟩
    rw [← hY] at hcp
    have hYl : Y.toList = Lib.byteCells s.data.toList := by
      rw [hY, List.toList_toArray, List.take_zero, List.nil_append, List.drop_of_length_le (by rw [Array.length_toList]; omega), List.append_nil]
    have hYs : Y.size = s.size := by rw [← Array.length_toList, hYl, Lib.byteCells_length, ← Lib.size_eq]
    have hgY : ((w.alloc (.cells M 5)).setRow w.heap.size Y).heap[w.heap.size]? = some (.cells Y 5 (0, 0)) := setRow_heap _ _ M _ 5 (0, 0) (heap_alloc_new w _)
    have hne : s.data.toList ≠ [] := fun e => h0 (by rw [Lib.size_eq, e]; rfl)
    have hUS := Lib.run_unsafeString_row (P := Try.prog) ((w.alloc (.cells M 5)).setRow w.heap.size Y) 103 3 9 5 Try.underlying103 hco w.heap.size Y.size (by unfold World.shape?; rw [hgY]) s.data.toList hne (by rw [← Lib.size_eq]; omega) (by rw [← Lib.size_eq]; omega)
      (fun j x hx => Lib.cells_of_row hgY Y.size j _ (by rw [List.take_of_length_le (by rw [Array.length_toList]; exact Nat.le_refl _), hYl]; simp [Lib.byteCells, hx]))
    rw [← Lib.size_eq] at hUS
    clear hY
    go_enter Try.func45, Try.ntmps45
    go_wp2
    go_ret
    have hb1 : Below w.heap.size w (w.alloc (.cells M 5)) := (Below.refl _ w).alloc (Nat.le_refl _) _
    have hb2 : Below w.heap.size (w.alloc (.cells M 5)) ((w.alloc (.cells M 5)).setRow w.heap.size Y) := ⟨rfl, rfl, rfl, by simp, fun k hk => setRow_other _ _ _ _ (by omega)⟩
    exact ⟨rfl, Lib.below_freeze (hb1.trans hb2) (p := ⟨w.heap.size, 0, none⟩) (Nat.le_refl _) _⟩
theorem clone_any (s : ByteArray) (w : World) (hlim : s.size ≤ 281474976710656) :
    Calls Try.prog 29 #[.string s] w fun e w' => e = .returned (.string s) ∧ Below w.heap.size w w' := by
  go_enter Try.func29, Try.ntmps29
  go_wp2_with (go_at_call 45; refine (liteClone_any _ _ hlim).mono ?_; rintro e w' ⟨rfl, hb⟩)
  go_ret
  exact ⟨rfl, hb⟩
end Go.Proofs.Ytebbbefknfldoaa
/- lex.numberAt: the number at a place, and the place behind it. -/
namespace Go.Proofs.Ytebbbefknfldoaa
open Go.ChangeShapes Go.WideShapes Go.ChangeAt Go.RowKit
set_option linter.unusedVariables false
set_option maxRecDepth 100000
theorem Hid.intro {p : Prop} (h : p) : Hid p := h
end Go.Proofs.Ytebbbefknfldoaa
/- lex.Tokens: the tokens of a text. -/
namespace Go.Proofs.Ytebbbefknfldoaa
open Go.ChangeShapes Go.WideShapes Go.ChangeAt Go.RowKit
set_option linter.unusedVariables false
set_option maxRecDepth 100000
def str (l : List UInt8) : ByteArray := ⟨l.toArray⟩
def Tok.cells (t : Tok) : List Value := [.int .i64 t.kind, .string (str t.text), .int .u32 t.num, .int .i64 (t.place : Int)]
theorem cells_new (w : World) (cs : Array Value) (T : TypeId) : ∀ j u, cs.toList[j]? = some u → (w.alloc (.cells cs T)).cell? ((⟨w.heap.size, 0, none⟩ : Addr).add j) = some u := by
  intro j u h
  refine Lib.cells_of_row (heap_alloc_new w _) cs.size j u ?_
  rw [List.take_of_length_le (by simp)]
  exact h
end Go.Proofs.Ytebbbefknfldoaa
/- The scan of a text, place by place. -/
namespace Go.Proofs.Ytebbbefknfldoaa
set_option linter.unusedVariables false
set_option maxRecDepth 100000
theorem inW_of_let (c : Int) (h : isLet c = true) : inW c = true := by simp [inW, h]
def ext (acc : List Tok) : Except Nat (List Tok) → Except Nat (List Tok)
  | .ok ts => .ok (acc ++ ts)
  | .error p => .error p
end Go.Proofs.Ytebbbefknfldoaa
/- lex.Tokens: the tokens of a text: the contract. -/
namespace Go.Proofs.Ytebbbefknfldoaa
open Go.ChangeShapes Go.WideShapes Go.ChangeAt Go.RowKit
set_option linter.unusedVariables false
set_option maxRecDepth 100000
theorem Lands.tail {P : Program} {c : Code} {l : Nat} {X : Code} {Q : Exit → Act → World → Prop} {a : Act} {w : World} (hX : findLabel c l = some (.seq .skip X)) (h : X.wp P (jumps (Lands P c Q) Q) a w) : Lands P c Q l a w :=
  Lands.of hX (wp_seq (wp_skip h))
end Go.Proofs.Ytebbbefknfldoaa
/- The tokens in memory, as a reader meets them; few. -/
namespace Go.Proofs.Ytebbbefknfldoaa
open Go.ChangeShapes Go.WideShapes Go.ChangeAt Go.RowKit
set_option linter.unusedVariables false
set_option maxRecDepth 100000
structure TokAt (w : World) (g i : Nat) (t : Tok) : Prop where
  kind : w.cell? ⟨g, i * 4, none⟩ = some (.int .i64 t.kind)
  text : w.cell? ⟨g, i * 4 + 1, none⟩ = some (.string (str t.text))
  num : w.cell? ⟨g, i * 4 + 2, none⟩ = some (.int .u32 t.num)
  place : w.cell? ⟨g, i * 4 + 3, none⟩ = some (.int .i64 (t.place : Int))
theorem TokAt.below {w w' : World} {g i : Nat} {t : Tok} {B : Nat} (h : TokAt w g i t) (hb : Below B w w') (hg : g < B) : TokAt w' g i t :=
  ⟨by rw [hb.cell (p := ⟨g, i * 4, none⟩) hg]; exact h.kind, by rw [hb.cell (p := ⟨g, i * 4 + 1, none⟩) hg]; exact h.text, by rw [hb.cell (p := ⟨g, i * 4 + 2, none⟩) hg]; exact h.num, by rw [hb.cell (p := ⟨g, i * 4 + 3, none⟩) hg]; exact h.place⟩
theorem str_toList (l : List UInt8) : (str l).toList = l := by
  rw [Lib.toList_data]
  rfl
end Go.Proofs.Ytebbbefknfldoaa
/- Register and Legal, and the document's. -/
namespace Go.Proofs.Ytebbbefknfldoaa
open Go.ChangeShapes Go.WideShapes Go.ChangeAt Go.RowKit
set_option linter.unusedVariables false
set_option maxRecDepth 100000
def isR (s : ByteArray) : Bool := decide (s.size = 2 ∧ atI (bs s) 0 = 114 ∧ 48 ≤ atI (bs s) 1 ∧ atI (bs s) 1 ≤ 55)
def isZ (s : ByteArray) : Bool := decide (s.size = 2 ∧ atI (bs s) 0 = 122 ∧ 48 ≤ atI (bs s) 1 ∧ atI (bs s) 1 ≤ 51)
def regN (s : ByteArray) : Int := if isR s || isZ s then atI (bs s) 1 - 48 else 0
theorem reg_none (s : ByteArray) (h1 : isR s = false) (h2 : isZ s = false) : regN s = 0 := by simp [regN, h1, h2]
end Go.Proofs.Ytebbbefknfldoaa
/- The document's Register and Legal, and Legal. -/
namespace Go.Proofs.Ytebbbefknfldoaa
open Go.ChangeShapes Go.WideShapes Go.ChangeAt Go.RowKit
set_option linter.unusedVariables false
set_option maxRecDepth 100000
theorem refRegister_any (s : ByteArray) (hs : s.size ≤ 4611686018427387904) (w : World) :
    Calls Try.prog 52 #[.string s] w fun e w' => e = .returned (.tuple #[.int .i64 (regN s), .bool (isZ s), .bool (isR s || isZ s)]) ∧ w' = w := by
  by_cases h2 : s.size = 2
  · have g0 := atI_get s 0 (by omega)
    have g1 := atI_get s 1 (by omega)
    have l1 := atI_lo (bs s) 1
    have m1 := atI_hi (bs s) 1
    obtain ⟨c0, hc0⟩ : ∃ c, c = atI (bs s) 0 := ⟨_, rfl⟩
    obtain ⟨c1, hc1⟩ : ∃ c, c = atI (bs s) 1 := ⟨_, rfl⟩
    have er : isR s = decide (c0 = 114 ∧ 48 ≤ c1 ∧ c1 ≤ 55) := by simp [isR, h2, hc0, hc1]
    have ez : isZ s = decide (c0 = 122 ∧ 48 ≤ c1 ∧ c1 ≤ 51) := by simp [isZ, h2, hc0, hc1]
    have en : regN s = if isR s || isZ s then c1 - 48 else 0 := by rw [hc1]; rfl
    rw [← hc0] at g0
    rw [← hc1] at g1 l1 m1
    rw [en, er, ez]
    clear er ez en hc0 hc1
    by_cases hr : c0 = 114 ∧ 48 ≤ c1 ∧ c1 ≤ 55
    · have e1 : decide (c0 = 114 ∧ 48 ≤ c1 ∧ c1 ≤ 55) = true := by simp; omega
      have e2 : decide (c0 = 122 ∧ 48 ≤ c1 ∧ c1 ≤ 51) = false := by simp; omega
      rw [e1, e2]
      simp only [Bool.true_or, if_true]
      obtain ⟨hr1, hr2, hr3⟩ := hr
      clear e1 e2
      subst hr1
      go_enter Try.func52, Try.ntmps52
      go_wp2
      all_goals first
        | omega
        | (go_ret3; exact ⟨rfl, rfl⟩)
    · have e1 : decide (c0 = 114 ∧ 48 ≤ c1 ∧ c1 ≤ 55) = false := by simp; omega
      by_cases hz : c0 = 122 ∧ 48 ≤ c1 ∧ c1 ≤ 51
      · have e2 : decide (c0 = 122 ∧ 48 ≤ c1 ∧ c1 ≤ 51) = true := by simp; omega
        rw [e1, e2]
        simp only [Bool.or_true, if_true]
        obtain ⟨hr1, hr2, hr3⟩ := hz
        clear e1 e2 hr
        subst hr1
        go_enter Try.func52, Try.ntmps52
        go_wp2
        all_goals first
          | omega
          | (go_ret3; exact ⟨rfl, rfl⟩)
      · have e2 : decide (c0 = 122 ∧ 48 ≤ c1 ∧ c1 ≤ 51) = false := by simp; omega
        rw [e1, e2]
        simp only [Bool.or_self, Bool.false_eq_true, if_false]
        clear e1 e2
        have hrH := Hid.intro hr
        have hzH := Hid.intro hz
        clear hr hz
        by_cases h1 : c0 = 114
        · have h1' : (c0 == 114) = true := by simp [h1]
          have h2' : (c0 == 122) = false := by simp; omega
          have h1H := Hid.intro h1
          clear h1
          go_enter Try.func52, Try.ntmps52
          go_wp2
          all_goals first
            | (exfalso; have := hrH.out; have := h1H.out; omega)
            | (go_ret3; exact ⟨rfl, rfl⟩)
        · have h1' : (c0 == 114) = false := by simp [h1]
          clear h1
          by_cases h3 : c0 = 122
          · have h3' : (c0 == 122) = true := by simp [h3]
            have h3H := Hid.intro h3
            clear h3
            go_enter Try.func52, Try.ntmps52
            go_wp2
            all_goals first
              | (exfalso; have := hzH.out; have := h3H.out; omega)
              | (go_ret3; exact ⟨rfl, rfl⟩)
          · have h3' : (c0 == 122) = false := by simp [h3]
            clear h3
            go_enter Try.func52, Try.ntmps52
            go_wp2
            go_ret3
            exact ⟨rfl, rfl⟩
  · have er : isR s = false := by simp [isR, h2]
    have ez : isZ s = false := by simp [isZ, h2]
    rw [reg_none s er ez, er, ez]
    have hn : ((s.size : Int) != 2) = true := by simp; omega
    clear er ez h2
    go_enter Try.func52, Try.ntmps52
    go_wp2
    go_ret3
    exact ⟨rfl, rfl⟩
def nameOK (l : List UInt8) : Bool := decide (isLet (atI l 0) = true ∧ lenW inW l = l.length ∧ l.length ≤ 32)
def legB (s : ByteArray) : Bool := nameOK (bs s) && !(isR s || isZ s)
end Go.Proofs.Ytebbbefknfldoaa
namespace Go.Proofs.Ytebbbefknfldoaa
set_option linter.unusedVariables false
structure Tm where
  name : List UInt8
  coef : Int
deriving DecidableEq
def nlt (a b : List UInt8) : Bool := Op.bytesLess a b
theorem nlt_nil (a : List UInt8) : nlt a [] = false := by cases a <;> rfl
theorem nlt_cons (a b : UInt8) (x y : List UInt8) : nlt (a :: x) (b :: y) = (decide (a < b) || (a == b && nlt x y)) := rfl
theorem u8_lt_irrefl (a : UInt8) : ¬ a < a := by rw [UInt8.lt_iff_toNat_lt]; omega
theorem u8_trans {a b c : UInt8} (h : a < b) (h2 : b < c) : a < c := by rw [UInt8.lt_iff_toNat_lt] at *; omega
theorem u8_tri (a b : UInt8) : a < b ∨ a = b ∨ b < a := by
  rw [UInt8.lt_iff_toNat_lt, UInt8.lt_iff_toNat_lt, ← UInt8.toNat_inj]
  omega
theorem nlt_irrefl (a : List UInt8) : nlt a a = false := by
  induction a with
  | nil => rfl
  | cons a x ih => rw [nlt_cons, ih]; simp
theorem nlt_trans {a b c : List UInt8} (h : nlt a b = true) (h2 : nlt b c = true) : nlt a c = true := by
  induction a generalizing b c with
  | nil =>
    cases c with
    | nil => rw [nlt_nil] at h2; cases h2
    | cons c z => rfl
  | cons a x ih =>
    cases b with
    | nil => rw [nlt_nil] at h; cases h
    | cons b y =>
      cases c with
      | nil => rw [nlt_nil] at h2; cases h2
      | cons c z =>
        rw [nlt_cons] at *
        simp only [Bool.or_eq_true, decide_eq_true_eq, Bool.and_eq_true, beq_iff_eq] at *
        rcases h with h | ⟨h, h'⟩
        · rcases h2 with h2 | ⟨h2, h2'⟩
          · exact .inl (u8_trans h h2)
          · subst h2; exact .inl h
        · subst h
          rcases h2 with h2 | ⟨h2, h2'⟩
          · exact .inl h2
          · exact .inr ⟨h2, ih h' h2'⟩
theorem nlt_tri (a b : List UInt8) : nlt a b = true ∨ a = b ∨ nlt b a = true := by
  induction a generalizing b with
  | nil => cases b with
    | nil => exact .inr (.inl rfl)
    | cons => exact .inl rfl
  | cons a x ih => cases b with
    | nil => exact .inr (.inr rfl)
    | cons b y =>
      rw [nlt_cons, nlt_cons]
      rcases u8_tri a b with h | h | h
      · exact .inl (by simp [h])
      · subst h
        rcases ih y with h | h | h
        · exact .inl (by simp [h])
        · exact .inr (.inl (by rw [h]))
        · exact .inr (.inr (by simp [h]))
      · exact .inr (.inr (by simp [h]))
theorem nlt_asymm {a b : List UInt8} (h : nlt a b = true) : nlt b a = false := by
  cases h2 : nlt b a
  · rfl
  · have := nlt_trans h h2; rw [nlt_irrefl] at this; cases this
theorem nlt_ne {a b : List UInt8} (h : nlt a b = true) : a ≠ b := by
  intro e; subst e; rw [nlt_irrefl] at h; cases h
theorem compare_nlt (a b : List UInt8) : decide (Lib.compareBytes a b < 0) = nlt a b := by
  induction a generalizing b with
  | nil => cases b <;> rfl
  | cons a x ih => cases b with
    | nil => rfl
    | cons b y =>
      rw [nlt_cons, Lib.compareBytes]
      rcases u8_tri a b with h | h | h
      · simp [h]
      · subst h
        simp only [u8_lt_irrefl, if_false]
        rw [ih]
        simp
      · have h1 : ¬ a < b := fun e => u8_lt_irrefl _ (u8_trans e h)
        have h2 : ¬ a = b := fun e => by subst e; exact u8_lt_irrefl _ h
        simp [h, h1, h2]
def cfOf (n : List UInt8) : List Tm → Int
  | [] => 0
  | t :: r => (if t.name = n then t.coef else 0) + cfOf n r
theorem cfOf_append (n : List UInt8) (a b : List Tm) : cfOf n (a ++ b) = cfOf n a + cfOf n b := by
  induction a with
  | nil => simp [cfOf]
  | cons x a ih => simp [cfOf, ih]; omega
theorem cfOf_perm (n : List UInt8) {a b : List Tm} (h : a.Perm b) : cfOf n a = cfOf n b := by
  induction h with
  | nil => rfl
  | cons x _ ih => simp [cfOf, ih]
  | swap x y l => simp [cfOf]; omega
  | trans _ _ h1 h2 => rw [h1, h2]
theorem cfOf_none (n : List UInt8) (l : List Tm) (h : ∀ t ∈ l, t.name ≠ n) : cfOf n l = 0 := by
  induction l with
  | nil => rfl
  | cons x l ih =>
    have h1 : x.name ≠ n := h x (by simp)
    simp [cfOf, h1]
    exact ih fun t ht => h t (by simp [ht])
structure Canon (l : List Tm) : Prop where
  rise : l.Pairwise (fun a b => nlt a.name b.name = true)
  some : ∀ t ∈ l, 0 < t.coef ∧ t.coef < 4294967296
theorem Canon.nil : Canon [] := ⟨List.Pairwise.nil, fun _ h => by cases h⟩
theorem Canon.tail {t : Tm} {l : List Tm} (h : Canon (t :: l)) : Canon l := ⟨(List.pairwise_cons.1 h.rise).2, fun x hx => h.some x (by simp [hx])⟩
theorem Canon.head {t : Tm} {l : List Tm} (h : Canon (t :: l)) : ∀ x ∈ l, nlt t.name x.name = true := (List.pairwise_cons.1 h.rise).1
theorem Canon.cf_head {t : Tm} {l : List Tm} (h : Canon (t :: l)) : cfOf t.name l = 0 :=
  cfOf_none _ _ fun x hx e => by have := h.head x hx; rw [e, nlt_irrefl] at this; cases this
theorem canon_first {x y : Tm} {a b : List Tm} (ha : Canon (x :: a)) (hb : Canon (y :: b)) (h : ∀ n, cfOf n (x :: a) % 4294967296 = cfOf n (y :: b) % 4294967296) : ¬ nlt x.name y.name = true := by
  intro hlt
  have h1 := h x.name
  have h2 : cfOf x.name (y :: b) = 0 := cfOf_none _ _ fun t ht e => by
    have : nlt x.name t.name = true := by
      rcases List.mem_cons.1 ht with rfl | ht
      · exact hlt
      · exact nlt_trans hlt (hb.head t ht)
    rw [e, nlt_irrefl] at this
    cases this
  have h3 := ha.cf_head
  have h4 := ha.some x (by simp)
  rw [h2] at h1
  simp only [cfOf, if_true] at h1
  rw [h3] at h1
  omega
theorem canon_unique : ∀ {a b : List Tm}, Canon a → Canon b → (∀ n, cfOf n a % 4294967296 = cfOf n b % 4294967296) → a = b
  | [], [], _, _, _ => rfl
  | [], y :: b, _, hb, h => by
    have h1 := h y.name
    have h3 := hb.cf_head
    have h4 := hb.some y (by simp)
    simp only [cfOf, if_true] at h1
    rw [h3] at h1
    omega
  | x :: a, [], ha, _, h => by
    have h1 := h x.name
    have h3 := ha.cf_head
    have h4 := ha.some x (by simp)
    simp only [cfOf, if_true] at h1
    rw [h3] at h1
    omega
  | x :: a, y :: b, ha, hb, h => by
    have he : x.name = y.name := by
      rcases nlt_tri x.name y.name with h1 | h1 | h1
      · exact absurd h1 (canon_first ha hb h)
      · exact h1
      · exact absurd h1 (canon_first hb ha fun n => (h n).symm)
    have hc : x.coef = y.coef := by
      have h1 := h x.name
      have h3 := ha.cf_head
      have h3' := hb.cf_head
      have h4 := ha.some x (by simp)
      have h4' := hb.some y (by simp)
      simp only [cfOf, if_true, he] at h1
      rw [← he, h3, he, h3'] at h1
      omega
    have hxy : x = y := by cases x; cases y; simp_all
    subst hxy
    have : a = b := canon_unique ha.tail hb.tail fun n => by
      have h1 := h n
      simp only [cfOf] at h1
      by_cases hn : x.name = n
      · rw [← hn, ha.cf_head, hb.cf_head]
      · rw [if_neg hn] at h1
        omega
    rw [this]
def emit (n : List UInt8) (c : Int) (l : List Tm) : List Tm := if c = 0 then l else ⟨n, c⟩ :: l
def gat (n : List UInt8) (c : Int) : List Tm → List Tm
  | [] => emit n c []
  | t :: r => if t.name = n then gat n ((c + t.coef) % 4294967296) r else emit n c (gat t.name ((0 + t.coef) % 4294967296) r)
def gather : List Tm → List Tm
  | [] => []
  | t :: r => gat t.name ((0 + t.coef) % 4294967296) r
theorem gather_gat (t : Tm) (r : List Tm) : gather (t :: r) = gat t.name 0 (t :: r) := by simp [gather, gat]
theorem gat_other (n : List UInt8) (c : Int) (t : Tm) (r : List Tm) (h : t.name ≠ n) : gat n c (t :: r) = emit n c (gather (t :: r)) := by rw [gat, if_neg h]; rfl
theorem gat_same (n : List UInt8) (c : Int) (t : Tm) (r : List Tm) (h : t.name = n) : gat n c (t :: r) = gat n ((c + t.coef) % 4294967296) r := by rw [gat, if_pos h]
def Sorted (l : List Tm) : Prop := l.Pairwise (fun a b => nlt b.name a.name = false)
theorem cf_emit (m n : List UInt8) (c : Int) (l : List Tm) : cfOf m (emit n c l) = (if n = m then c else 0) + cfOf m l := by
  unfold emit
  split
  · rename_i h; subst h; split <;> simp
  · rfl
theorem cf_gat (m n : List UInt8) (c : Int) (l : List Tm) : cfOf m (gat n c l) % 4294967296 = ((if n = m then c else 0) + cfOf m l) % 4294967296 := by
  induction l generalizing n c with
  | nil => rw [gat, cf_emit]
  | cons t r ih =>
    by_cases h : t.name = n
    · rw [gat_same n c t r h, ih]
      simp only [cfOf, h]
      split
      · omega
      · omega
    · rw [gat, if_neg h, cf_emit]
      have := ih t.name ((0 + t.coef) % 4294967296)
      simp only [cfOf]
      generalize cfOf m (gat t.name ((0 + t.coef) % 4294967296) r) = X at this ⊢
      generalize cfOf m r = Y at this ⊢
      skip
      split at this <;> split <;> rename_i h1 <;> (try simp only [h1] at *) <;> (try simp at *) <;> omega
theorem cf_gather (m : List UInt8) (l : List Tm) : cfOf m (gather l) % 4294967296 = cfOf m l % 4294967296 := by
  cases l with
  | nil => rfl
  | cons t r => rw [gather_gat, cf_gat]; simp
theorem canon_emit {n : List UInt8} {c : Int} {l : List Tm} (hc : 0 ≤ c ∧ c < 4294967296) (h : Canon l) (hn : ∀ t ∈ l, nlt n t.name = true) : Canon (emit n c l) := by
  unfold emit
  split
  · exact h
  · refine ⟨List.pairwise_cons.2 ⟨hn, h.rise⟩, fun t ht => ?_⟩
    rcases List.mem_cons.1 ht with rfl | ht
    · show 0 < c ∧ c < 4294967296
      omega
    · exact h.some t ht
theorem mem_emit {n : List UInt8} {c : Int} {l : List Tm} {t : Tm} (h : t ∈ emit n c l) : t.name = n ∨ t ∈ l := by
  unfold emit at h
  split at h
  · exact .inr h
  · rcases List.mem_cons.1 h with rfl | h
    · exact .inl rfl
    · exact .inr h
theorem mem_gat {n : List UInt8} {c : Int} {l : List Tm} {t : Tm} (h : t ∈ gat n c l) : t.name = n ∨ ∃ x ∈ l, x.name = t.name := by
  induction l generalizing n c with
  | nil => rw [gat] at h; rcases mem_emit h with h | h
           · exact .inl h
           · cases h
  | cons x r ih =>
    rw [gat] at h
    split at h
    · rcases ih h with h | ⟨y, hy, hn⟩
      · exact .inl h
      · exact .inr ⟨y, by simp [hy], hn⟩
    · rcases mem_emit h with h | h
      · exact .inl h
      · rcases ih h with h | ⟨y, hy, hn⟩
        · exact .inr ⟨x, by simp, h.symm⟩
        · exact .inr ⟨y, by simp [hy], hn⟩
theorem canon_gat {n : List UInt8} {c : Int} {l : List Tm} (hc : 0 ≤ c ∧ c < 4294967296) (h : Sorted l) (hn : ∀ t ∈ l, nlt t.name n = false) : Canon (gat n c l) := by
  induction l generalizing n c with
  | nil => rw [gat]; exact canon_emit hc Canon.nil (fun _ h => by cases h)
  | cons x r ih =>
    have hx := List.pairwise_cons.1 h
    rw [gat]
    split
    · exact ih (by omega) hx.2 fun t ht => hn t (by simp [ht])
    · rename_i hne
      have hlt : nlt n x.name = true := by
        rcases nlt_tri n x.name with h1 | h1 | h1
        · exact h1
        · exact absurd h1.symm hne
        · rw [hn x (by simp)] at h1; cases h1
      refine canon_emit hc (ih (by omega) hx.2 hx.1) fun t ht => ?_
      rcases mem_gat ht with h1 | ⟨y, hy, h1⟩
      · rw [h1]; exact hlt
      · rw [← h1]
        rcases nlt_tri x.name y.name with h2 | h2 | h2
        · exact nlt_trans hlt h2
        · rw [← h2]; exact hlt
        · rw [hx.1 y hy] at h2; cases h2
theorem canon_gather {l : List Tm} (h : Sorted l) : Canon (gather l) := by
  cases l with
  | nil => exact Canon.nil
  | cons t r =>
    have hx := List.pairwise_cons.1 h
    exact canon_gat (by omega) hx.2 hx.1
def leT (a b : Tm) : Bool := !nlt b.name a.name
theorem leT_trans (a b c : Tm) (h1 : leT a b = true) (h2 : leT b c = true) : leT a c = true := by
  simp only [leT, Bool.not_eq_true'] at *
  cases h : nlt c.name a.name
  · rfl
  · rcases nlt_tri b.name a.name with h3 | h3 | h3
    · rw [h1] at h3; cases h3
    · rw [← h3, h2] at h; cases h
    · rw [nlt_trans h h3] at h2; cases h2
theorem leT_total (a b : Tm) : (leT a b || leT b a) = true := by
  simp only [leT]
  cases h : nlt b.name a.name
  · rfl
  · rw [nlt_asymm h]; rfl
def norm (l : List Tm) : List Tm := gather (l.mergeSort leT)
theorem sorted_mergeSort (l : List Tm) : Sorted (l.mergeSort leT) := by
  have := List.pairwise_mergeSort (le := leT) (fun a b c => leT_trans a b c) (fun a b => leT_total a b) l
  exact this.imp fun h => by simpa [leT] using h
theorem canon_norm (l : List Tm) : Canon (norm l) := canon_gather (sorted_mergeSort l)
theorem cf_norm (n : List UInt8) (l : List Tm) : cfOf n (norm l) % 4294967296 = cfOf n l % 4294967296 := by
  rw [norm, cf_gather, cfOf_perm n (List.mergeSort_perm l leT)]
theorem norm_eq {a l : List Tm} (ha : Canon a) (h : ∀ n, cfOf n a % 4294967296 = cfOf n l % 4294967296) : norm l = a :=
  canon_unique (canon_norm l) ha fun n => by rw [cf_norm, h]
theorem norm_canon {a : List Tm} (ha : Canon a) : norm a = a := norm_eq ha fun _ => rfl
theorem gather_sorted {l l' : List Tm} (hp : l.Perm l') (hs : Sorted l') : gather l' = norm l :=
  (norm_eq (canon_gather hs) fun n => by rw [cf_gather, cfOf_perm n hp]).symm
def timesT (l : List Tm) (n : Int) : List Tm := (l.map fun t => ⟨t.name, t.coef * n % 4294967296⟩).filter fun t => decide (t.coef ≠ 0)
theorem timesT_nil (n : Int) : timesT [] n = [] := rfl
theorem timesT_cons (t : Tm) (l : List Tm) (n : Int) : timesT (t :: l) n = emit t.name (t.coef * n % 4294967296) (timesT l n) := by
  simp only [timesT, List.map_cons, List.filter_cons, emit]
  by_cases h : t.coef * n % 4294967296 = 0 <;> simp [h]
theorem timesT_append (a b : List Tm) (n : Int) : timesT (a ++ b) n = timesT a n ++ timesT b n := by simp [timesT]
theorem mem_timesT {l : List Tm} {n : Int} {t : Tm} (h : t ∈ timesT l n) : 0 < t.coef ∧ t.coef < 4294967296 ∧ ∃ x ∈ l, x.name = t.name := by
  simp only [timesT, List.mem_filter, List.mem_map] at h
  obtain ⟨⟨x, hx, rfl⟩, h⟩ := h
  simp only [ne_eq, decide_not, Bool.not_eq_true', decide_eq_false_iff_not] at *
  refine ⟨by omega, by omega, x, hx, rfl⟩
theorem canon_times {l : List Tm} (h : Canon l) (n : Int) : Canon (timesT l n) := by
  induction l with
  | nil => exact Canon.nil
  | cons t l ih =>
    rw [timesT_cons]
    refine canon_emit (by omega) (ih h.tail) fun x hx => ?_
    obtain ⟨_, _, y, hy, e⟩ := mem_timesT hx
    rw [← e]
    exact h.head y hy
def addT (a b : List Tm) : List Tm := norm (a ++ b)
theorem canon_add (a b : List Tm) : Canon (addT a b) := canon_norm _
theorem cf_add (n : List UInt8) (a b : List Tm) : cfOf n (addT a b) % 4294967296 = (cfOf n a + cfOf n b) % 4294967296 := by rw [addT, cf_norm, cfOf_append]
theorem emit_len (n : List UInt8) (c : Int) (l : List Tm) : (emit n c l).length ≤ l.length + 1 := by
  unfold emit
  split <;> simp
theorem times_len (l : List Tm) (n : Int) : (timesT l n).length ≤ l.length := by
  induction l with
  | nil => exact Nat.le_refl _
  | cons t l ih =>
    rw [timesT_cons]
    have := emit_len t.name (t.coef * n % 4294967296) (timesT l n)
    simp
    omega
end Go.Proofs.Ytebbbefknfldoaa
